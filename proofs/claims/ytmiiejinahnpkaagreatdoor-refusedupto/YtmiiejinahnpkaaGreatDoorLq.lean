import Derived.Test.YtmiiejinahnpkaaGreatDoorXDaDd
import Derived.Test.YtmiiejinahnpkaaGreatDoorXEaAe
namespace Go.Proofs.YtmiiejinahnpkaaGreatDoor
open Go.RowKit
def cfgOk (P:Program):Option (List (Nat×TypeId))->Bool
 |some l=>l.length==6&&(List.range 6).all fun j=>match l[j]? with
  |some (o,u)=>o==j&&P.cellsOf u==1&&(match P.underlying u with|some (.int .i64)=>true|_=>false)
  |none=>false
 |none=>false
theorem Tryz.cfgOk:cfgOk Tryz.prog (flds Tryz.prog 46)=true:=by kernel_rfl
theorem Tryz.cellsConfig:Tryz.prog.cellsOf 46=6:=by kernel_rfl
theorem cfgOk_get {P:Program}{l:List (Nat×TypeId)}(h:cfgOk P (some l)=true)(j:Nat)(hj:j<6): ∃u,l[j]?=some (j,u)/\P.cellsOf u=1/\P.underlying u=some (.int .i64):=by
 simp only[cfgOk,Bool.and_eq_true,List.all_eq_true,List.mem_range] at h
 have hjj:=h.2 j hj
 cases hlj:l[j]? with
 |none=>rw[hlj] at hjj;simp at hjj
 |some ou=>
  obtain ⟨o,u⟩:=ou
  rw[hlj] at hjj
  simp only[Bool.and_eq_true,beq_iff_eq] at hjj
  obtain ⟨⟨rfl,hc⟩,hu⟩:=hjj
  refine⟨u,rfl,hc,?_⟩
  split at hu
  .assumption
  .cases hu
theorem list_six {l:List Value}(h:l.length=6): ∃a b c d e f,l=[a,b,c,d,e,f]:=by
 match l,h with
 |[a,b,c,d,e,f],_=>exact⟨a,b,c,d,e,f,rfl⟩
theorem zfv {H:Type}{enc:TypeId×Value->H}{w:World}{spare:Nat->Bool}{held:Bool}{fuel:Nat}{cs:List Value}{x:DataW H×List MemPlace}(h:DataW.trod enc Tryz.prog w 0 spare held fuel 46 cs=some x):
  ∃z:Nat->Int,cs=[.int .i64 (z 0),.int .i64 (z 1),.int .i64 (z 2),.int .i64 (z 3),.int .i64 (z 4),.int .i64 (z 5)]:=by
 have hok:=Tryz.cfgOk
 cases hl:flds Tryz.prog 46 with
 |none=>rw[hl] at hok;simp[Go.Proofs.YtmiiejinahnpkaaGreatDoor.cfgOk] at hok
 |some l=>
  rw[hl] at hok
  obtain ⟨fs,hfs,hf⟩:=zhb hl
  obtain ⟨xs,n,_,_,hlen,hxl,hx⟩:=DataW.trod_struct hfs h
  rw[Tryz.cellsConfig] at hlen
  have key: ∀j,j<6-> ∃z,cs[j]?=some (.int .i64 z):=by
   intro j hj
   obtain ⟨u,hlj,hc,hu'⟩:=cfgOk_get hok j hj
   obtain ⟨f,hfj,rfl,rfl⟩:=hf j j u hlj
   have ht:=hx f.offset f hfj
   rw[hc] at ht
   cases hxj:xs[f.offset]? with
   |none=>
    have:f.offset<xs.length:=by
     have:=(gsi.1 hfj).1
     omega
    rw[List.getElem?_eq_none_iff] at hxj
    omega
   |some y=>
    rw[hxj] at ht
    obtain ⟨z,hz,_,hwf⟩:=DataW.trod_int hu' ht
    refine⟨z,?_⟩
    have h1:((cs.drop f.offset).take 1)[0]?=some (.int .i64 z):=by rw[hz];rfl
    rw[List.getElem?_take] at h1
    simpa using h1
  obtain ⟨a,b,c,d,e,f,rfl⟩:=list_six hlen
  obtain ⟨z0,e0⟩:=key 0 (by decide)
  obtain ⟨z1,e1⟩:=key 1 (by decide)
  obtain ⟨z2,e2⟩:=key 2 (by decide)
  obtain ⟨z3,e3⟩:=key 3 (by decide)
  obtain ⟨z4,e4⟩:=key 4 (by decide)
  obtain ⟨z5,e5⟩:=key 5 (by decide)
  simp only[List.getElem?_cons_zero,List.getElem?_cons_succ,Option.some.injEq] at e0 e1 e2 e3 e4 e5
  refine⟨fun j=>if j=0 then z0 else if j=1 then z1 else if j=2 then z2 else if j=3 then z3 else if j=4 then z4 else z5,?_⟩
  rw[e0,e1,e2,e3,e4,e5]
  rfl
end Go.Proofs.YtmiiejinahnpkaaGreatDoor
namespace Go.Proofs.YtmiiejinahnpkaaGreatDoor.played
open Go.ChangeShapes Go.WideShapes Go.ChangeAt Go.RowKit
theorem script_len {H:Type}{enc:TypeId×Value->H}{w:World}{spare:Nat->Bool}{held:Bool}{fuel:Nat}{a:Option Addr}{m c:Nat}{x:DataW H×List MemPlace}(h:DataW.trod enc Tryz.prog w 0 spare held fuel 22 [.slice a m c]=some x):m<=Rows.uptoBulk x.1:=by
 rcases Deep.open_slice Tryz.underlying22 h with ⟨e,_⟩|⟨a',len,cap,m',n,D,Pl,e,_,hl,_,hm,rfl,hx⟩
 .simp only[List.cons.injEq,Value.slice.injEq,and_true] at e
  omega
 .simp only[List.cons.injEq,Value.slice.injEq,and_true] at e
  have hb1:=zgr (H:=H) ((List.range len).map D) ((List.range (m'-len)).map fun j=>D (len+j))
  have hb2:=zj1 (H:=H) ((List.range len).map D)
  simp only[List.length_map,List.length_range] at hb2
  simp only
  omega
end Go.Proofs.YtmiiejinahnpkaaGreatDoor.played
