import Derived.Test.YtmiiejinahnpkaaGreatDoorOj
set_option maxRecDepth 100000
namespace Go.Proofs.YtmiiejinahnpkaaGreatDoor.uncrossed
open Go.ChangeShapes Go.WideShapes Go.ChangeAt Go.RowKit
theorem contract (H:Type)(enc:TypeId×Value->H)(W:World)(base:Nat)(args:Array Value)(ds gs:List (DataW H))(before:List MemPlace)
  (hval: ∀(j:Nat) t v,Tryz.f10.params[j]?=some t->args[j]?=some v->Value.okWide Tryz.prog W .any base t v)
  (hW:DataW.Whole enc Tryz.prog Tryz.f10.params.toList Rows.uncrossedSpec.vars false W args.toList ds gs before)(hL:laidMetH Tryz.prog Rows.uncrossedUptoRow.laid W)(hk:Rows.uptoSmall H (ds++gs)=true):
  Calls Tryz.prog 10 args W fun e W'=> ∃v,e= .returned v/\Rows.uncrossedSpec.post enc Tryz.prog Tryz.f10 false true false false W args v W':=by
 have hW':=hW
 obtain ⟨p,q,hA0,hV,rfl,hfz,hnd⟩:=hW
 have hA:DataW.TrodAll enc Tryz.prog W 0 (fun _=>true) true Tryz.f10.params.toList args.toList ds p:=hA0
 rw[Tryz.params10] at hA hval
 obtain ⟨v0,vs0,d0,ds0,p0,q0,hargs,rfl,rfl,h0,r0⟩:=trodAll_cons hA
 obtain ⟨v1,vs1,d1,ds1,p1,q1,rfl,rfl,rfl,h1,r1⟩:=trodAll_cons r0
 obtain ⟨v2,vs2,d2,ds2,p2,q2,rfl,rfl,rfl,h2,r2⟩:=trodAll_cons r1
 obtain ⟨rfl,rfl,rfl⟩:=trodAll_nil r2
 obtain rfl:args= #[v0,v1,v2]:=by cases args;simp_all
 obtain ⟨rfl,rfl⟩:=trodVars_none hV
 obtain ⟨a0,len,cap,rfl⟩:=okWide_slice Tryz.underlying25 (hval 1 25 v1 rfl rfl)
 obtain ⟨bb,rfl⟩:=okWide_bool Tryz.underlying4 (hval 2 4 v2 rfl rfl)
 obtain ⟨fuel,hf⟩:=h1
 obtain ⟨fuel2,hf2⟩:=h2
 obtain ⟨fuel0,hf0⟩:=h0
 have hbulk:Rows.uptoBulk d1<=1048575:=by
  have h:Rows.uptoBulkAll ([d0,d1,d2]++[])<=1048576:=of_decide_eq_true hk
  have:=zj0 d0
  simp only[List.append_nil,Rows.uptoBulkAll] at h
  omega
 obtain ⟨cs0,rfl,_⟩:=okWide_struct Tryz.underlying46 (hval 0 46 v0 rfl rfl)
 obtain ⟨z,hz⟩:=zfv hf0
 obtain rfl:cs0= #[.int .i64 (z 0),.int .i64 (z 1),.int .i64 (z 2),.int .i64 (z 3),.int .i64 (z 4),.int .i64 (z 5)]:=by
  simp only[Value.cells] at hz
  cases cs0
  simp_all
 obtain ⟨sa,m,c,A,N,C,Y,hcs,hm,hS⟩:=open_cmds hf (by simp only;omega)
 simp only[Value.cells,List.cons.injEq,and_true,Value.slice.injEq] at hcs
 obtain ⟨rfl,rfl,rfl⟩:=hcs
 simp only at hm
 clear hA0
 simp only[List.append_nil] at hW'
 refine Uncrossed_any z a0 len cap bb A N C Y W _ (by omega) (coded.layAt hL) hS ?_
 intro W' hb
 have hlt:=hW'.lt
 refine⟨_,rfl,coded.post_below hW' rfl rfl rfl hb (fun _ _ _=>trodAll_cons_mk (shut_bool Tryz.underlying4 _) trodAll_mk0) (fun sp hsp=>?_)⟩
 refine DataW.TrodAll.respare coded.kids coded.full (by rw[Tryz.params10];decide) ?_ hsp
 rw[Tryz.params10]
 exact⟨p0,p1++p2,⟨fuel0,DataW.trod_carry _ _ _ _ hf0 (fun x hx=>hb.same (hlt x (by simp[hx])))⟩,⟨p1,p2,⟨fuel,DataW.trod_carry _ _ _ _ hf (fun x hx=>hb.same (hlt x (by simp[hx])))⟩,⟨p2,[],⟨fuel2,DataW.trod_carry _ _ _ _ hf2 (fun x hx=>hb.same (hlt x (by simp[hx])))⟩,rfl,by simp⟩,rfl⟩,rfl⟩
def w0:Array Value:= #[.agg #[.int .i64 0,.int .i64 0,.int .i64 0,.int .i64 0,.int .i64 0,.int .i64 0],.slice none 0 0,.bool false]
theorem laid_met (os:Os):laidMet Tryz.prog Rows.uncrossedUptoRow.laid ((World.doorLaid Tryz.prog 22 os).forCall (fun _ _=>0) ⟨#[],w0,[]⟩).memory:=
 laidMet_of_run' 8 (by kernel_rfl) (by kernel_rfl)
