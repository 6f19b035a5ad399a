import Derived.Test.YtmiiejinahnpkaaGreatDoorXInKb
namespace Go.Proofs.YtmiiejinahnpkaaGreatDoor
open Go.RowKit Go.Shelf
theorem zhc (e:Nat->Int): ∀u∈evc e,u.oneCell'=true:=by
 intro u hu
 unfold evc at hu
 simp only[List.mem_map] at hu
 obtain ⟨j,_,rfl⟩:=hu
 rfl
theorem evcs_one (E:List (Nat->Int)): ∀u∈evcs E,u.oneCell'=true:=by
 intro u hu
 unfold evcs at hu
 obtain ⟨e,_,h⟩:=List.mem_flatMap.1 hu
 exact zhc e u h
theorem evcs_app (a b:List (Nat->Int)):evcs (a++b)=evcs a++evcs b:=by simp[evcs]
variable {B K P:Nat} {v:Value} {w w':World}
theorem zd0 {u:Value}{E1 E2:List (Nat->Int)}(ty:TypeId)(h1:Evs w B v E1)(h2:Evs w 0 u E2)(hn:E1.length+E2.length<=4000000000)(hb:B<=w.heap.size):
  ∃v' w',(Builtin.append_ #[32,32] ty #[v,u]).run Tryz.prog w= .ok v' w'/\Evs w' B v' (E1++E2)/\w.grownBy w' v.ownBlock:=by
 obtain ⟨i0,hi0,hz0,hzs,hzb⟩:=info_parts Tryz.infoEventR
 unfold Evs at *
 rcases h2.2 with ⟨rfl,h0⟩|⟨g,cap,cur,rfl,_,h3,h4,h5,h6,h7⟩
 .have hE:E2=[]:=List.eq_nil_of_length_eq_zero h0
  subst hE
  refine⟨v,w,?_,by simpa using h1,zha _ _⟩
  obtain ⟨a,c,rfl⟩:=zae h1
  have hnc:E1.length<=c:=by
   rcases h1.2 with ⟨e1,e2⟩|⟨g,c',cur,e1,_,_,e4,_⟩
   .rw[e2];exact Nat.zero_le _
   .cases e1;exact e4
  simp[Builtin.append_,run_underlying Tryz.underlying32,sizeOf,typeInfo,hi0,Builtin.lenOf,Builtin.firstCells,loadCells]
  rw[if_pos hnc]
  cases a<;>simp[storeCells]
 .obtain ⟨v',w',r1,r2,r3,_⟩:=run_append_own_at (P:=Tryz.prog) w B 32 ty 42 i0 _ 10 80 Tryz.underlying32 hi0 hz0 hzs hzb rfl (by decide) v E1.length (evcs E1) h1 ⟨g,0,none⟩ E2.length cap (evcs E2) (by rw[zk1]) (fun j x hj=>by
   rw[Addr.add_lit]
   rw[cell_of_row w g (0+j) cur _ (0,0) h3]
   rw[←h7,List.getElem?_take] at hj
   split at hj
   .simpa using hj
   .cases hj) (evcs_one E2) (by unfold maxLen;omega) (by omega) hb
  refine⟨v',w',r1,?_,r3⟩
  rw[List.length_append,evcs_app]
  exact r2
variable {E:List (Nat->Int)}
theorem Evs.push {v':Value}{e:Nat->Int}(h:Grew B 42 10 w v w' v' (E.length+1) (evcs E++evc e)):Evs w' B v' (E++[e]):=by
 unfold Evs
 rw[List.length_append,evcs_snoc]
 exact h.own
variable {c:Cf} {m:Mk}
theorem PS.grown {b:Bk}{s0:Nat}(h:PS w P b c m s0)(hg:w.grownBy w' v.ownBlock)(he:Evs w B v E)(hB: ∀g,Own P b g->g<B):PS w' P b c m s0:=
 h.keep fun g hg'=>hg.block g (h.lt hg') fun e=>by
  have:=(World.ownsRow.lt he g e.symm).1
  have:=hB g hg'
  omega
theorem zdh (F:Nat->Prop)(w0:World)(h0:Tch F w0 w)(hg:w.grownBy w' v.ownBlock)(he:Evs w B v E)(hB:w0.heap.size<=B):Tch F w0 w':=
 ⟨hg.os.trans h0.os,hg.tape.trans h0.tape,hg.output.trans h0.output,llt h0.size hg.size,fun g hl hn=>(hg.block g (lll hl h0.size) fun e=>by have:=(World.ownsRow.lt he g e.symm).1;omega).trans (h0.blk g hl hn)⟩
theorem blk_ref (h:w.heap[P]?=some (.cells (pmc c m K) 104 (0,0)))(r:Nat):
  (w.setCell ⟨P,8,none⟩ (.int .i64 (r:Nat))).heap[P]?=some (.cells (pmc c {m with ref:=r} K) 104 (0,0)):=zbb h
theorem blk_seq (h:w.heap[P]?=some (.cells (pmc c m K) 104 (0,0)))(r:Nat):
  (w.setCell ⟨P,9,none⟩ (.int .i64 (r:Nat))).heap[P]?=some (.cells (pmc c {m with seq:=r} K) 104 (0,0)):=zbb h
theorem blk_time (h:w.heap[P]?=some (.cells (pmc c m K) 104 (0,0)))(r:Nat):
  (w.setCell ⟨P,7,none⟩ (.int .i64 (r:Nat))).heap[P]?=some (.cells (pmc c {m with time:=r} K) 104 (0,0)):=zbb h
theorem blk_phase (h:w.heap[P]?=some (.cells (pmc c m K) 104 (0,0)))(r:Nat):
  (w.setCell ⟨P,6,none⟩ (.int .i64 (r:Nat))).heap[P]?=some (.cells (pmc c {m with phase:=r} K) 104 (0,0)):=zbb h
theorem ze6 {F:Nat->Prop}{i:Nat}(h:F P):Tch F w (w.setCell ⟨P,i,none⟩ v):=
 ⟨rfl,rfl,rfl,by simp[World.setCell],fun g _ hn=>bhs w ⟨P,i,none⟩ v g fun e=>hn (e▸h)⟩
