import Derived.Test.YtmiiejinahnpkaaGreatDoorNe
import Derived.Test.YtmiiejinahnpkaaGreatDoorXDaDd
set_option maxRecDepth 100000
namespace Go.Proofs.YtmiiejinahnpkaaGreatDoor.codes
open Go.ChangeShapes Go.WideShapes Go.ChangeAt Go.RowKit
variable {held:Bool} {c fuel m:Nat} {spare:Nat->Bool} {a:Option Addr} {w:World}
theorem slice_cap {H:Type}{enc:TypeId×Value->H}{t e:TypeId}{x:DataW H×List MemPlace}(ht:Tryz.prog.underlying t=some (.slice e))(h:DataW.trod enc Tryz.prog w 0 spare held fuel t [.slice a m c]=some x):m<=c:=by
 rcases Deep.open_slice ht h with ⟨e,_⟩|⟨a',len,cap,m',n,D,Pl,e,_,hl,_⟩
 .simp only[List.cons.injEq,Value.slice.injEq,and_true] at e
  omega
 .simp only[List.cons.injEq,Value.slice.injEq,and_true] at e
  omega
theorem bulk_each {H:Type}(k:Nat)(l:List (DataW H))(h: ∀d∈l,k<=Rows.uptoBulk d):k * l.length<=Rows.uptoBulkAll l:=by
 induction l with
 |nil=>simp[Rows.uptoBulkAll]
 |cons d l ih=>
  have h1:=h d (by simp)
  have h2:=ih fun x hx=>h x (by simp[hx])
  simp only[Rows.uptoBulkAll,List.length_cons,Nat.mul_add]
  omega
theorem events_len {H:Type}{enc:TypeId×Value->H}{x:DataW H×List MemPlace}(h:DataW.trod enc Tryz.prog w 0 spare held fuel 32 [.slice a m c]=some x):11 * m<=Rows.uptoBulk x.1:=by
 rcases Deep.open_slice Tryz.underlying32 h with ⟨e,_⟩|⟨a',len,cap,m',n,D,Pl,e,_,hl,_,hm,rfl,hx⟩
 .simp only[List.cons.injEq,Value.slice.injEq,and_true] at e
  omega
 .simp only[List.cons.injEq,Value.slice.injEq,and_true] at e
  have hlm:len<=m':=by rw[hm];split<;>omega
  have hb1:=zgr (H:=H) ((List.range len).map D) ((List.range (m'-len)).map fun j=>D (len+j))
  have hb2:=bulk_each (H:=H) 11 ((List.range len).map D) (fun d hd=>by
   obtain ⟨i,hi,rfl⟩:=List.mem_map.1 hd
   obtain ⟨cs',_,hc⟩:=hx i (by have:=List.mem_range.1 hi;omega)
   obtain ⟨fs,hfs,hn⟩: ∃fs:Array Field,Tryz.prog.underlying 42=some (.struct fs)/\fs.size=10:=⟨_,Tryz.underlying42,rfl⟩
   obtain ⟨xs,n',_,hxx,_,hxl,_⟩:=DataW.trod_struct hfs hc
   have h1:=zj1 (H:=H) (xs.map (·.1))
   have h2:D i= .agg (xs.map (·.1)):=(Prod.mk.inj hxx).1
   rw[h2]
   simp only[Rows.uptoBulk,List.length_map] at h1 ⊢
   omega)
  simp only[List.length_map,List.length_range] at hb2
  simp only
  omega
theorem contract (H:Type)(enc:TypeId×Value->H)(W:World)(base:Nat)(args:Array Value)(ds gs:List (DataW H))(before:List MemPlace)
  (hval: ∀(j:Nat) t v,Tryz.f6.params[j]?=some t->args[j]?=some v->Value.okWide Tryz.prog W .any base t v)
  (hW:DataW.Whole enc Tryz.prog Tryz.f6.params.toList Rows.codesSpec.vars false W args.toList ds gs before)(hL:laidMetH Tryz.prog Rows.codesUptoRow.laid W)(hk:Rows.uptoSmall H (ds++gs)=true):
  Calls Tryz.prog 6 args W fun e W'=> ∃v,e= .returned v/\Rows.codesSpec.post enc Tryz.prog Tryz.f6 false true false false W args v W':=by
 have hW':=hW
 obtain ⟨p,q,hA0,hV,rfl,hfz,hnd⟩:=hW
 have hA:DataW.TrodAll enc Tryz.prog W 0 (fun _=>true) true Tryz.f6.params.toList args.toList ds p:=hA0
 rw[Tryz.params6] at hA hval
 obtain ⟨v0,vs0,d0,ds0,p0,q0,hargs,rfl,rfl,h0,r0⟩:=trodAll_cons hA
 obtain ⟨v1,vs1,d1,ds1,p1,q1,rfl,rfl,rfl,h1,r1⟩:=trodAll_cons r0
 obtain ⟨rfl,rfl,rfl⟩:=trodAll_nil r1
 obtain rfl:args= #[v0,v1]:=by cases args;simp_all
 obtain ⟨rfl,rfl⟩:=trodVars_none hV
 obtain ⟨a0,n0,c0,rfl⟩:=okWide_slice Tryz.underlying32 (hval 0 32 v0 rfl rfl)
 obtain ⟨a1,n1,c1,rfl⟩:=okWide_slice Tryz.underlying31 (hval 1 31 v1 rfl rfl)
 obtain ⟨fuel,hf⟩:=h1
 obtain ⟨fuel0,hf0⟩:=h0
 have hbulk:Rows.uptoBulk d0+Rows.uptoBulk d1<=1048576:=by
  have h:Rows.uptoBulkAll ([d0,d1]++[])<=1048576:=of_decide_eq_true hk
  simp only[List.append_nil,Rows.uptoBulkAll] at h
  omega
 simp only[Value.cells] at hf hf0
 have hn11:=events_len hf0
 have hcap:=slice_cap Tryz.underlying31 hf
 obtain ⟨a,n,c,E,hcs,hn,hE,hr⟩:=open_events hf0 (by simp only;omega)
 simp only[List.cons.injEq,and_true,Value.slice.injEq] at hcs
 obtain ⟨rfl,rfl,rfl⟩:=hcs
 obtain ⟨a,N,c,X,hcs,hN,hX,hb⟩:=open_bytes hf (by simp only;omega)
 simp only[List.cons.injEq,and_true,Value.slice.injEq] at hcs
 obtain ⟨rfl,rfl,rfl⟩:=hcs
 clear hA0
 simp only[List.append_nil] at hW'
 simp only at hn11
 refine Codes_any a0 n0 c0 E a1 n1 c1 X W _ (coded.layAt hL) (by omega) hE hr hN hcap hX hb ?_
 intro W' hb
 have hlt:=hW'.lt
 refine⟨_,rfl,coded.post_below hW' rfl rfl rfl hb (fun _ _ _=>trodAll_cons_mk (shut_bool Tryz.underlying4 _) trodAll_mk0) (fun sp hsp=>?_)⟩
 refine DataW.TrodAll.respare coded.kids coded.full (by rw[Tryz.params6];decide) ?_ hsp
 rw[Tryz.params6]
 exact⟨p0,p1,⟨fuel0,DataW.trod_carry _ _ _ _ hf0 (fun x hx=>hb.same (hlt x (by simp[hx])))⟩,⟨p1,[],⟨fuel,DataW.trod_carry _ _ _ _ hf (fun x hx=>hb.same (hlt x (by simp[hx])))⟩,rfl,by simp⟩,rfl⟩
def w0:Array Value:= #[.slice none 0 0,.slice none 0 0]
theorem laid_met (os:Os):laidMet Tryz.prog Rows.codesUptoRow.laid ((World.doorLaid Tryz.prog 22 os).forCall (fun _ _=>0) ⟨#[],w0,[]⟩).memory:=
 laidMet_of_run' 8 (by kernel_rfl) (by kernel_rfl)
