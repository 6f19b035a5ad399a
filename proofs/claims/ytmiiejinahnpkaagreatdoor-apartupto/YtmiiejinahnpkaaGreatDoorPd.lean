/- For every configuration and all commands whose bulk together is at most 1048576, the law Apart answers true: in Trading, behind each command, the best prices are apart and no order without a price is live; a command's trades are at the prices of orders that rested, from the best one on. (Blanks are scarce in these texts for the claim's size: their readable sources are the verifier's own.) -/
import Derived.Test.YtmiiejinahnpkaaGreatDoorPc
set_option maxRecDepth 100000
namespace Go.Proofs.YtmiiejinahnpkaaGreatDoor.apart
open Go.ChangeShapes Go.WideShapes Go.ChangeAt Go.RowKit
theorem reads (os:Os){H:Type}(enc:TypeId×Value->H): ∃places,DataW.whole enc Tryz.prog ((World.doorLaid Tryz.prog 22 os).forCall (fun _ _=>0) ⟨#[],w0,[]⟩).memory Tryz.f9.params.toList Rows.apartSpec.vars false w0.toList 8=some ([.agg [.lit (.int .i64 0),.lit (.int .i64 0),.lit (.int .i64 0),.lit (.int .i64 0),.lit (.int .i64 0),.lit (.int .i64 0)],.nil],[],places):=
 ⟨[],by kernel_rfl⟩
theorem liftedUpto (os:Os)(started:os.Started)(H:Type)(enc:TypeId×Value->H)(F:Stop.Interp):
  ReturnsInHanded {} Tryz.checked os 9 .any ((Rows.OpenSpec.upto Rows.apartSpec).preRow enc Tryz.prog Tryz.f9 Rows.apartUptoRow.domain false Rows.apartUptoRow.laid) (((Rows.OpenSpec.upto Rows.apartSpec).at F).post enc Tryz.prog Tryz.f9 false true false false):=by
 obtain ⟨places,hx⟩:=reads os enc
 refine returnsInHanded_of_row (C:=Tryz.checked) (s:=Rows.OpenSpec.upto Rows.apartSpec) coded.own started (by kernel_rfl) Tryz.func9
  (witness_row_atRef (enc:=enc) (C:=Tryz.checked) false (World.doorLaid Tryz.prog 22 os) w0 rfl (by kernel_rfl) (by kernel_rfl) (by kernel_rfl)
   (OpenSpec.preRow_of_cond 8 hx (by kernel_rfl) (fun k hk=>by cases hk;kernel_rfl) (by kernel_rfl) (laid_met os))) ?_
 intro W base args ds gs before hval hW _ hcond _ hL _ _
 exact contract H enc W base args ds gs before hval hW hL (hcond _ rfl)
theorem saidUpto:Rows.ApartUptoSaid:=
 OpenClaim.holds_of_cond 9 Tryz.f9 rfl rfl rfl rfl rfl rfl rfl ⟨rfl,rfl,rfl,rfl,rfl⟩ rfl rfl rfl rfl rfl (by kernel_rfl) Tryz.func9 (by kernel_rfl)
  (of_decide_eq_true (by kernel_rfl)) (by unfold Func.isWrapper;first|(rw[if_pos (by decide+kernel)];kernel_rfl)|(rw[if_neg (by decide+kernel)];exact⟨rfl,rfl⟩))
  (fun os started H enc _ F=>by rw[OpenClaim.pre_eq_preRow];exact liftedUpto os started H enc F)
theorem plain (f : FuncId)(fn : Func)(hf : Tryz.pinned.checked.prog.funcNamed "outcry/outcrykeep.Apart" = some f)(hfn : Tryz.pinned.checked.prog.funcs[f]? = some fn) :
  true=Tryz.pinned.checked.prog.looks []/\ ∀(j:Nat) t,fn.params[j]?=some t->Tryz.pinned.checked.prog.wantsStandIn t=false:=by
 obtain rfl : f = 9 := Option.some.inj ((show Tryz.prog.funcNamed "outcry/outcrykeep.Apart" = some 9 by kernel_rfl).symm.trans hf) |>.symm
 obtain rfl:fn=Tryz.f9:=(Option.some.inj (Tryz.func9.symm.trans hfn)).symm
 refine⟨by kernel_rfl,fun j t ht=>?_⟩
 rw[Tryz.params9] at ht
 have hm:t=46\/t=25:=by simpa using Array.mem_of_getElem? ht
 rcases hm with rfl|rfl
 .exact(show Tryz.prog.wantsStandIn 46=false by kernel_rfl)
 .exact(show Tryz.prog.wantsStandIn 25=false by kernel_rfl)
end Go.Proofs.YtmiiejinahnpkaaGreatDoor.apart
namespace Go.Proofs.YtmiiejinahnpkaaGreatDoor
open Go.ChangeShapes Go.WideShapes Go.ChangeAt Go.RowKit
theorem apart_upto_card:Rows.ApartUptoCardSaid:=
 Claim7.holds_tied_plain_at .later [] _ _ _ _ apart.saidUpto (fun _ h=>by cases h) (by kernel_rfl) (fun _ h=>by cases h) apartUpto_row_tie rfl ⟨rfl,rfl⟩ (by kernel_rfl) rfl apart.plain (by kernel_rfl)
end Go.Proofs.YtmiiejinahnpkaaGreatDoor
