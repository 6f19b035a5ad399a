import Derived.Test.YtmiiejinahnpkaaGreatDoorNk
import Derived.Test.YtmiiejinahnpkaaGreatDoorDk
set_option maxRecDepth 100000
namespace Go.Proofs.YtmiiejinahnpkaaGreatDoor
open Go.RowKit
theorem Tryz.cellsBytess:Tryz.prog.cellsOf 25=1:=by kernel_rfl
section
variable {H:Type} {enc:TypeId×Value->H} {w:World} {spare:Nat->Bool} {held:Bool}
theorem cap_of {fuel:Nat}{t e:TypeId}{a:Option Addr}{m c:Nat}{x:DataW H×List MemPlace}(ht:Tryz.prog.underlying t=some (.slice e))(h:DataW.trod enc Tryz.prog w 0 spare held fuel t [.slice a m c]=some x):m<=c:=by
 rcases Deep.open_slice ht h with ⟨e,_⟩|⟨a',len,cap,m',n,D,Pl,e,_,hl,_⟩
 .simp only[List.cons.injEq,Value.slice.injEq,and_true] at e
  omega
 .simp only[List.cons.injEq,Value.slice.injEq,and_true] at e
  omega
theorem open_cmds {fuel:Nat}{cs:List Value}{x:DataW H×List MemPlace}(h:DataW.trod enc Tryz.prog w 0 spare held fuel 25 cs=some x)(hk:Rows.uptoBulk x.1<=1048576):
  ∃sa n c A N C Y,cs=[.slice sa n c]/\n<=Rows.uptoBulk x.1/\CmdsAt w sa n A N C Y:=by
 rcases Deep.open_slice Tryz.underlying25 h with ⟨rfl,_⟩|⟨a,len,cap,m,n,D,Pl,rfl,_,hl,_,hm,rfl,hx⟩
 .exact⟨none,0,0,fun _=>none,fun _=>0,fun _=>0,fun _ _=>0,rfl,Nat.zero_le _,⟨fun i hi=>absurd hi (by omega),fun i hi=>absurd hi (by omega),fun i hi=>absurd hi (by omega),fun _ _=>by decide,fun i hi=>absurd hi (by omega)⟩⟩
 .have hlen:len<=m:=by rw[hm];split<;>omega
  have hb1:=zgr (H:=H) ((List.range len).map D) ((List.range (m-len)).map fun j=>D (len+j))
  have hb2:=zj1 (H:=H) ((List.range len).map D)
  simp only[List.length_map,List.length_range] at hb2
  simp only at hk
  have key: ∀i,i<len-> ∃(t:Option Addr×Nat×Nat×(Nat->Int)),w.cell? (a.add i)=some (.slice t.1 t.2.1 t.2.2.1)/\t.2.1<=t.2.2.1/\t.2.1<=1048576/\BsAt w t.1 t.2.1 t.2.2.2/\ ∀q,q<t.2.1->0<=t.2.2.2 q/\t.2.2.2 q<=255:=by
   intro i hi
   obtain ⟨cs',h1,h2⟩:=hx i (by omega)
   rw[Tryz.cellsBytes,Nat.mul_one] at h1
   obtain ⟨_,_,h3⟩:=World.cells?_some h1
   have hD:D i∈(List.range len).map D:=List.mem_map_of_mem (List.mem_range.2 hi)
   have hb3:=bulk_mem hD
   obtain ⟨a1,N,c,X,rfl,r1,r2,r3⟩:=open_bytes h2 (by simp only;omega)
   refine⟨(a1,N,c,X),?_,cap_of Tryz.underlying31 h2,r1,r2,r3⟩
   have:=h3 0 (by decide)
   rw[Deep.add_add,Nat.add_zero] at this
   exact this
  classical
  obtain ⟨T,hT⟩:=Deep.choose_lt (α:=Option Addr×Nat×Nat×(Nat->Int)) key
  refine⟨some a,len,cap,fun i=>(T i).1,fun i=>(T i).2.1,fun i=>(T i).2.2.1,fun i q=>if i<len/\q<(T i).2.1 then ((T i).2.2.2 q).toNat else 0,rfl,by simp only;omega,⟨?_,fun i hi=>⟨(hT i hi).2.2.1,(hT i hi).2.1⟩,?_,?_,?_⟩⟩
  .intro i hi
   have h0:=(hT 0 (by omega)).1
   have hp:=zgl (show w.cell? a=some _ by simpa [Addr.add] using h0)
   obtain ⟨q0,_⟩:=hT i hi
   rw[hp,zhz] at q0
   exact⟨a.block,a.off,by rw[←hp],q0⟩
  .intro i hi q hq
   obtain ⟨_,_,_,r2,r3⟩:=hT i hi
   obtain ⟨b,o,e,hc⟩:=r2 q hq
   refine⟨b,o,e,?_⟩
   rw[hc]
   show _=some (Value.int .u8 ((if i<len/\q<(T i).2.1 then ((T i).2.2.2 q).toNat else 0:Nat):Int))
   rw[if_pos ⟨hi,hq⟩,Int.toNat_of_nonneg (r3 q hq).1]
  .intro i q
   show (if i<len/\q<(T i).2.1 then ((T i).2.2.2 q).toNat else 0)<=255
   split
   .rename_i h
    have:=((hT i h.1).2.2.2.2 q h.2).2
    omega
   .omega
  .intro i hi h0 g o e
   obtain ⟨b,o',e',hc⟩:=(hT i hi).2.2.2.1 0 h0
   have:=zab hc
   rw[e] at e'
   injection e' with e'
   injection e' with e' _
   rw[e']
   exact this
theorem open_nums {fuel:Nat}{cs:List Value}{x:DataW H×List MemPlace}(h:DataW.trod enc Tryz.prog w 0 spare held fuel 26 cs=some x)(hk:Rows.uptoBulk x.1<=1048576):
  ∃(a:Option Addr) (n c:Nat) (T:Nat->Int),cs=[.slice a n c]/\n<=1048576/\ ∀i,i<n-> ∃g o,a=some ⟨g,o,none⟩/\w.cell? ⟨g,o+i,none⟩=some (.int .i64 (T i)):=by
 rcases ChangeShapes.open_ints Tryz.underlying26 Tryz.underlying3 Tryz.cellsInt h with ⟨rfl,_⟩|⟨a,len,cap,zs,rfl,_,hl,_,hz,rfl,hc,hw⟩
 .exact⟨none,0,0,fun _=>0,rfl,by omega,fun i hi=>absurd hi (by omega)⟩
 .have hlen:len<=zs.length:=by rw[hz];split<;>omega
  refine⟨some a,len,cap,fun q=>zs.getD q 0,rfl,?_,?_⟩
  .have h1:=zgr (H:=H) (ChangeShapes.lits .i64 (zs.take len)) (ChangeShapes.lits .i64 (zs.drop len))
   have h2:=zj1 (H:=H) (ChangeShapes.lits .i64 (zs.take len))
   simp[ChangeShapes.lits] at h2
   simp only at hk
   simp[ChangeShapes.lits] at h1 hk
   omega
  .intro i hi
   have h0:=hc 0 (by omega)
   have hp:=zgl (show w.cell? a=some _ by simpa [Addr.add] using h0)
   refine⟨a.block,a.off,by rw[←hp],?_⟩
   have:=hc i (by omega)
   rw[hp,zhz] at this
   exact this
end
end Go.Proofs.YtmiiejinahnpkaaGreatDoor
namespace Go.Proofs.YtmiiejinahnpkaaGreatDoor.refused
open Go.ChangeShapes Go.WideShapes Go.ChangeAt Go.RowKit
theorem contract (H:Type)(enc:TypeId×Value->H)(W:World)(base:Nat)(args:Array Value)(ds gs:List (DataW H))(before:List MemPlace)
  (hval: ∀(j:Nat) t v,Tryz.f8.params[j]?=some t->args[j]?=some v->Value.okWide Tryz.prog W .any base t v)
  (hW:DataW.Whole enc Tryz.prog Tryz.f8.params.toList Rows.refusedSpec.vars false W args.toList ds gs before)(hL:laidMetH Tryz.prog Rows.refusedUptoRow.laid W)(hk:Rows.uptoSmall H (ds++gs)=true):
  Calls Tryz.prog 8 args W fun e W'=> ∃v,e= .returned v/\Rows.refusedSpec.post enc Tryz.prog Tryz.f8 false true false false W args v W':=by
 have hW':=hW
 obtain ⟨p,q,hA0,hV,rfl,hfz,hnd⟩:=hW
 have hA:DataW.TrodAll enc Tryz.prog W 0 (fun _=>true) true Tryz.f8.params.toList args.toList ds p:=hA0
 rw[Tryz.params8] at hA hval
 obtain ⟨v0,vs0,d0,ds0,p0,q0,hargs,rfl,rfl,h0,r0⟩:=trodAll_cons hA
 obtain ⟨v1,vs1,d1,ds1,p1,q1,rfl,rfl,rfl,h1,r1⟩:=trodAll_cons r0
 obtain ⟨rfl,rfl,rfl⟩:=trodAll_nil r1
 obtain rfl:args= #[v0,v1]:=by cases args;simp_all
 obtain ⟨rfl,rfl⟩:=trodVars_none hV
 obtain ⟨a0,len,cap,rfl⟩:=okWide_slice Tryz.underlying25 (hval 1 25 v1 rfl rfl)
 obtain ⟨fuel,hf⟩:=h1
 obtain ⟨fuel0,hf0⟩:=h0
 have hbulk:Rows.uptoBulk d1<=1048575:=by
  have h:Rows.uptoBulkAll ([d0,d1]++[])<=1048576:=of_decide_eq_true hk
  have:=zj0 d0
  simp only[List.append_nil,Rows.uptoBulkAll] at h
  omega
 obtain ⟨cs0,rfl,_⟩:=okWide_struct Tryz.underlying46 (hval 0 46 v0 rfl rfl)
 obtain ⟨z,hz⟩:=zfv hf0
 obtain rfl:cs0= #[.int .i64 (z 0),.int .i64 (z 1),.int .i64 (z 2),.int .i64 (z 3),.int .i64 (z 4),.int .i64 (z 5)]:=by
  simp only[Value.cells] at hz
  cases cs0
  simp_all
 obtain ⟨sa,m,c,A,N,C,Y,hcs,hm,hS⟩:=open_cmds hf (by simp only;omega)
 simp only[Value.cells,List.cons.injEq,and_true,Value.slice.injEq] at hcs
 obtain ⟨rfl,rfl,rfl⟩:=hcs
 simp only at hm
 clear hA0
 simp only[List.append_nil] at hW'
 refine Refused_any z a0 len cap A N C Y W _ (by omega) (coded.layAt hL) hS ?_
 intro W' hb
 have hlt:=hW'.lt
 refine⟨_,rfl,coded.post_below hW' rfl rfl rfl hb (fun _ _ _=>trodAll_cons_mk (shut_bool Tryz.underlying4 _) trodAll_mk0) (fun sp hsp=>?_)⟩
 refine DataW.TrodAll.respare coded.kids coded.full (by rw[Tryz.params8];decide) ?_ hsp
 rw[Tryz.params8]
 exact⟨p0,p1,⟨fuel0,DataW.trod_carry _ _ _ _ hf0 (fun x hx=>hb.same (hlt x (by simp[hx])))⟩,⟨p1,[],⟨fuel,DataW.trod_carry _ _ _ _ hf (fun x hx=>hb.same (hlt x (by simp[hx])))⟩,rfl,by simp⟩,rfl⟩
def w0:Array Value:= #[.agg #[.int .i64 0,.int .i64 0,.int .i64 0,.int .i64 0,.int .i64 0,.int .i64 0],.slice none 0 0]
theorem laid_met (os:Os):laidMet Tryz.prog Rows.refusedUptoRow.laid ((World.doorLaid Tryz.prog 22 os).forCall (fun _ _=>0) ⟨#[],w0,[]⟩).memory:=
 laidMet_of_run' 8 (by kernel_rfl) (by kernel_rfl)
end Go.Proofs.YtmiiejinahnpkaaGreatDoor.refused
