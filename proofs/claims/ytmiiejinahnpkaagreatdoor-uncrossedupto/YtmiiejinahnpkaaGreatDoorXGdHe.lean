import Derived.StillTailTactics
import Derived.StillTail
import Derived.OrdersIn
import Derived.OrdersHeld
import Derived.Test.YtmiiejinahnpkaaGreatDoorXFaHd
set_option maxRecDepth 100000
set_option maxHeartbeats 4000000
namespace Go.Proofs.YtmiiejinahnpkaaGreatDoor
section
open Go.RowKit
def zfw (ops:Array Oper):Bool:=ops.all fun o=>match o.op with| .defer _=>false|_=>true
theorem noDefers_at {ops:Array Oper}(h:zfw ops=true){i:Nat}{o:Oper}(ho:ops[i]?=some o): ∀c,o.op≠ .defer c:=by
 intro c hc
 unfold zfw at h
 rw[Array.all_eq_true] at h
 obtain ⟨hi,e⟩:=gsi.1 ho
 have:=h i hi
 rw[e,hc] at this
 cases this
variable {P:Program} {ops:Array Oper} {Q:Exit->Act->World->Prop} {md:Region.Mode}
variable {a:Act} {K:Act->World->Prop} {w:World}
theorem oper_round {o:Oper}(lp m:Nat)(hd: ∀c,o.op≠ .defer c)(h:o.wp P a w K Q):o.wpIn (Fence.wide.inRound lp) m P a w K Q:=by
 unfold Oper.wp at h
 unfold Oper.wpIn
 refine⟨fun _ _=>trivial,?_⟩
 rw[Oper.semAt_eq _ _ _ hd]
 generalize (execOp a.eval o).run P w=r at *
 cases r with
 |ok x w'=>
  cases x with
  |enter f args=>exact⟨(fun e=>by cases e),CallsIn.inRound lp (callsIn_wide.2 h)⟩
  |row r args=>exact⟨(fun e=>by cases e),fun c cs _=>let ⟨v,w',hr,s⟩:=h c cs;⟨v,w',hr,stepsIn_wide.2 s⟩⟩
  |_=>first|exact h|exact h.elim
 |halt x w'=>cases x<;>first|exact h|exact h.elim
theorem op_round {i:Nat}(lp m:Nat)(hnd:zfw ops=true)(hno: ¬LetsOut Q)(h:wpOp P ops Q i K a w):wpOpIn (Fence.wide.inRound lp) m P ops Q i K a w:=by
 unfold wpOp at h
 unfold wpOpIn
 cases ho:ops[i]? with
 |none=>
  rw[ho] at h
  exact h
 |some o=>
  rw[ho] at h
  dsimp only at h ⊢
  split
  .rename_i hw
   rw[if_pos hw] at h
   rcases h with h|⟨_,h⟩
   .exact oper_round lp m (noDefers_at hnd ho) h
   .exact absurd h hno
  .rename_i hw
   rw[if_neg hw] at h
   exact⟨fun _ _=>trivial,h⟩
theorem any_round (lp m:Nat)(hnd:zfw ops=true)(hno: ¬LetsOut Q): ∀(g:Nat) (listed:Array Bool) (a:Act) (w:World),wpAny P md ops Q g listed a w->wpAnyIn (Fence.wide.inRound lp) m P md ops Q g listed a w:=by
 intro g
 induction g with
 |zero=>intro listed a w h;exact h
 |succ g ih=>
  intro listed a w h
  exact⟨h.1,fun i hi=>wpOpIn_mono (fun a w=>ih _ a w) (op_round lp m hnd hno (h.2 i hi))⟩
theorem round_still {id:Nat}{l:List Oper}{lp m:Nat}(hm:P.follows .mixedOrders=true)(hnd:zfw l.toArray=true)(hno: ¬LetsOut Q)(hB:Region.lexB .any l.toArray=true)
  (h:wpStill P l.toArray {w with drawn:=w.drawn+1} (fun a'=>Q .normal a' {w with drawn:=w.drawn+1}) l a):(Code.region id l.toArray true).wpIn (Fence.wide.inRound lp) m P Q a w:=by
 simp only[Region.lexB,Bool.and_eq_true] at hB
 refine wpIn_region_any hm (any_round lp m hnd hno _ _ _ _ (wpAny_of_still (Q:=fun a'=>Q .normal a' {w with drawn:=w.drawn+1}) (fun _ h=>h) _ _ _ ?_))
 have:=wpAnyS_lex (md:= .any) hB.1 l.toArray.toList 0 (Array.replicate l.toArray.size false) a (by simp) (by simpa using hB.2) (by simpa using h)
 simpa using this
end
section
open Go.RowKit
variable {P:Program} {ops:Array Oper} {Q:Exit->Act->World->Prop} {md:Region.Mode}
def Sc (c e:Nat) (T1 T2:World->Prop) (L:Array Bool) (w:World):Prop:=(L.getD c false=false->T1 w)/\(L.getD e false=false->T2 w)
def anyU (P:Program) (md:Region.Mode) (ops:Array Oper) (Q:Exit->Act->World->Prop) (S:Array Bool->World->Prop):Nat->Array Bool->Act->World->Prop
 |0,L,a,w=>Region.ready md ops L=[]/\Q .normal a w
 |n+1,L,a,w=>(Region.ready md ops L=[]->Q .normal a w)/\ ∀i∈Region.ready md ops L,wpOp P ops Q i (fun a' w'=>S (L.setIfInBounds i true) w'/\anyU P md ops Q S n (L.setIfInBounds i true) a' w') a w
variable {S:Array Bool->World->Prop}
theorem any_of_U (n:Nat): ∀(L:Array Bool) (a:Act) (w:World),anyU P md ops Q S n L a w->wpAny P md ops Q n L a w:=by
 induction n with
 |zero=>exact fun _ _ _ h=>h
 |succ n ih=>exact fun L a w h=>⟨h.1,fun i hi=>wpOp_mono (fun a' w' h'=>ih _ a' w' h'.2) (h.2 i hi)⟩
variable {c i id:Nat}
theorem U_first {T:World->Prop}{G:Array Bool->Prop}{oi:Oper}{v:Value}(hi:ops[i]?=some oi)(hsel: ∀(j:Nat) (o:Oper) cs b,ops[j]?=some o->o.op≠ .select cs b)
  (hQ: ∀c a w,Q (.panic c) (a.put oi.dst v) w->Q (.panic c) a w)(hST: ∀L w,G L->S L w->T w)(hG: ∀L j,G L->i∈Region.ready md ops L->j∈Region.ready md ops L->j≠i->G (L.setIfInBounds j true))
  (hm: ∀L w,S (L.setIfInBounds i true) w↔S L w):
  ∀(n:Nat) (L:Array Bool) (a:Act) (w:World),(∀j oj,ops[j]?=some oj->j≠i->L.getD j true=false->(∀d∈oj.after,Region.binds md d=true->d.on≠i)->oi.apart ops oj=true)->
   i∈Region.ready md ops L->G L->YieldsIf P ops T oi v a->S L w->anyU P md ops Q S n (L.setIfInBounds i true) (a.put oi.dst v) w->anyU P md ops Q S (n+1) L a w:=by
 intro n
 induction n with
 |zero=>
  intro L a w _ hr hg hy hS H
  refine⟨fun h=>(by rw[h] at hr;cases hr),fun j hj=>?_⟩
  by_cases e:j=i
  .subst e
   exact hy.wpOp hi (hST L w hg hS) ⟨(hm L w).2 hS,H⟩
  .have:=ready_mono hj e
   rw[H.1] at this
   cases this
 |succ n ih=>
  intro L a w hfree hr hg hy hS H
  refine⟨fun h=>(by rw[h] at hr;cases hr),fun j hj=>?_⟩
  by_cases e:j=i
  .subst e
   exact hy.wpOp hi (hST L w hg hS) ⟨(hm L w).2 hS,H⟩
  .obtain ⟨hjun,oj,hoj,hall⟩:=mem_ready.1 hj
   have hnot: ∀d∈oj.after,Region.binds md d=true->d.on≠i:=by
    intro d hd hb he
    have h1:=hall d hd hb
    have h0:=(mem_ready.1 hr).1
    rw[he] at h1
    by_cases hlt:i<L.size
    .simp[hlt] at h0 h1
     rw[h0] at h1
     cases h1
    .simp[Array.getElem?_eq_none (Nat.le_of_not_lt hlt)] at h1
   have h2:=wpOp_putIf hoj (hfree j oj hoj e hjun hnot) (fun cs b=>hsel i oi cs b hi) (fun cs b=>hsel j oj cs b hoj) hQ hy (H.2 j (ready_mono hj e))
   refine wpOp_mono (fun a' w' h3=>?_) h2
   have hcm:=Array.setIfInBounds_comm (xs:=L) true true e
   have hS':S (L.setIfInBounds j true) w':=(hm _ _).1 (by rw[hcm];exact h3.2.1)
   refine⟨hS',ih (L.setIfInBounds j true) a' w' (fun k ok hk hki hun hno=>hfree k ok hk hki ?_ hno) (ready_mono hr (Ne.symm e)) (hG L j hg hr hj e) h3.1 hS' (by rw[hcm];exact h3.2.2)⟩
   by_cases hjk:j=k
   .subst hjk
    exact hjun
   .rw[getD_set_ne true hjk] at hun
    exact hun
variable {L:Array Bool}
theorem zdy {j:Nat}(h:i≠j):(L.setIfInBounds i true).getD j false=L.getD j false:=getD_set_ne false h
theorem zcu (hw:Region.waitsFor md ops c i=true)(hi:i∈Region.ready md ops L):c∉Region.ready md ops L:=by
 intro hc
 obtain ⟨_,oc,hoc,hall⟩:=mem_ready.1 hc
 obtain ⟨oc',hoc',d,hd,hb,he⟩:=Region.waitsFor_spec hw
 rw[hoc] at hoc'
 cases hoc'
 have h1:=hall d hd hb
 have h0:=(mem_ready.1 hi).1
 rw[he] at h1
 by_cases hlt:i<L.size
 .simp[hlt] at h0 h1
  rw[h0] at h1
  cases h1
 .simp[Array.getElem?_eq_none (Nat.le_of_not_lt hlt)] at h1
theorem Sc_put {e:Nat}{T1 T2:World->Prop}(hc:i≠c)(he:i≠e)(L:Array Bool)(w:World):Sc c e T1 T2 (L.setIfInBounds i true) w↔Sc c e T1 T2 L w:=by
 unfold Sc
 rw[zdy hc,zdy he]
variable {c e:Nat} {T1 T2:World->Prop} {i:Nat} {oi:Oper} {v:Value} {n:Nat} {L:Array Bool} {a:Act} {w:World}
theorem U_take0 (i:Nat)(hi:ops[i]?=some oi)(hs:Region.noSelect ops=true)(hf:Region.free md ops L i=true)(hr:(Region.ready md ops L).contains i=true)(hne:(i !=c&&i !=e)=true)
  (hQ: ∀c a w,Q (.panic c) (a.put oi.dst v) w->Q (.panic c) a w)(hy:YieldsIf P ops (fun _=>True) oi v a)(hS:Sc c e T1 T2 L w)
  (h:anyU P md ops Q (Sc c e T1 T2) n (L.setIfInBounds i true) (a.put oi.dst v) w):anyU P md ops Q (Sc c e T1 T2) (n+1) L a w:=by
 simp only[Bool.and_eq_true,bne_iff_ne,ne_eq] at hne
 exact U_first (T:=fun _=>True) (G:=fun _=>True) hi (Region.noSelect_spec hs) hQ (fun _ _ _ _=>trivial) (fun _ _ _ _ _ _=>trivial) (Sc_put hne.1 hne.2) n L a w (Region.free_spec hi hf) (by simpa using hr) trivial hy hS h
theorem zc3 (i:Nat)(hi:ops[i]?=some oi)(hs:Region.noSelect ops=true)(hf:Region.free md ops L i=true)(hr:(Region.ready md ops L).contains i=true)(hne:(i !=c&&i !=e)=true)(he:Region.waitsFor md ops e i=true)(hL:L.getD e false=false)
  (hQ: ∀c a w,Q (.panic c) (a.put oi.dst v) w->Q (.panic c) a w)(hy:YieldsIf P ops T2 oi v a)(hS:Sc c e T1 T2 L w)
  (h:anyU P md ops Q (Sc c e T1 T2) n (L.setIfInBounds i true) (a.put oi.dst v) w):anyU P md ops Q (Sc c e T1 T2) (n+1) L a w:=by
 simp only[Bool.and_eq_true,bne_iff_ne,ne_eq] at hne
 refine U_first (T:=T2) (G:=fun L=>L.getD e false=false) hi (Region.noSelect_spec hs) hQ (fun _ _ hg hS=>hS.2 hg) (fun L j hg hir hjr _=>?_) (Sc_put hne.1 hne.2) n L a w (Region.free_spec hi hf) (by simpa using hr) hL hy hS h
 have he':j≠e:=fun h=>zcu he hir (by rw[←h];exact hjr)
 exact(zdy he').trans hg
theorem U_take1 (i:Nat)(hi:ops[i]?=some oi)(hs:Region.noSelect ops=true)(hf:Region.free md ops L i=true)(hr:(Region.ready md ops L).contains i=true)(hne:(i !=c&&i !=e)=true)(hc:Region.waitsFor md ops c i=true)(he:Region.waitsFor md ops e i=true)(hLc:L.getD c false=false)(hL:L.getD e false=false)
  (hQ: ∀c a w,Q (.panic c) (a.put oi.dst v) w->Q (.panic c) a w)(hy:YieldsIf P ops (fun w=>T1 w/\T2 w) oi v a)(hS:Sc c e T1 T2 L w)
  (h:anyU P md ops Q (Sc c e T1 T2) n (L.setIfInBounds i true) (a.put oi.dst v) w):anyU P md ops Q (Sc c e T1 T2) (n+1) L a w:=by
 simp only[Bool.and_eq_true,bne_iff_ne,ne_eq] at hne
 refine U_first (T:=fun w=>T1 w/\T2 w) (G:=fun L=>L.getD c false=false/\L.getD e false=false) hi (Region.noSelect_spec hs) hQ (fun _ _ hg hS=>⟨hS.1 hg.1,hS.2 hg.2⟩) (fun L j hg hir hjr _=>?_) (Sc_put hne.1 hne.2) n L a w (Region.free_spec hi hf) (by simpa using hr) ⟨hLc,hL⟩ hy hS h
 have hc':j≠c:=fun h=>zcu hc hir (by rw[←h];exact hjr)
 have he':j≠e:=fun h=>zcu he hir (by rw[←h];exact hjr)
 exact⟨(zdy hc').trans hg.1,(zdy he').trans hg.2⟩
theorem U0 (i:Nat)(hi:ops[i]?=some oi)(hq:(Region.noSelect ops&&Region.free md ops L i&&(Region.ready md ops L).contains i&&(i !=c&&i !=e))=true)
  (hQ: ∀c a w,Q (.panic c) (a.put oi.dst v) w->Q (.panic c) a w)(hy:YieldsIf P ops (fun _=>True) oi v a)(hS:Sc c e T1 T2 L w)
  (h:anyU P md ops Q (Sc c e T1 T2) n (L.setIfInBounds i true) (a.put oi.dst v) w):anyU P md ops Q (Sc c e T1 T2) (n+1) L a w:=by
 simp only[Bool.and_eq_true] at hq
 exact U_take0 i hi hq.1.1.1 hq.1.1.2 hq.1.2 (by simpa using hq.2) hQ hy hS h
theorem U1 (i:Nat)(hi:ops[i]?=some oi)(hq:(Region.noSelect ops&&Region.free md ops L i&&(Region.ready md ops L).contains i&&(i !=c&&i !=e)&&Region.waitsFor md ops c i&&Region.waitsFor md ops e i&&!L.getD c false&&!L.getD e false)=true)
  (hQ: ∀c a w,Q (.panic c) (a.put oi.dst v) w->Q (.panic c) a w)(hy:YieldsIf P ops (fun w=>T1 w/\T2 w) oi v a)(hS:Sc c e T1 T2 L w)
  (h:anyU P md ops Q (Sc c e T1 T2) n (L.setIfInBounds i true) (a.put oi.dst v) w):anyU P md ops Q (Sc c e T1 T2) (n+1) L a w:=by
 simp only[Bool.and_eq_true,Bool.not_eq_true'] at hq
 obtain ⟨⟨⟨⟨⟨⟨⟨h1,h2⟩,h3⟩,h4⟩,h5⟩,h6⟩,h7⟩,h8⟩:=hq
 exact U_take1 i hi h1 h2 h3 (by simpa using h4) h5 h6 h7 h8 hQ hy hS h
theorem za1 (i:Nat){o:Oper}(hr:Region.ready md ops L=[i])(ho:ops[i]?=some o)
  (h: ∀K':Act->World->Prop,Hid (∀a w,S (L.setIfInBounds i true) w->anyU P md ops Q S n (L.setIfInBounds i true) a w->K' a w)->if Region.wanted o (yielded ops a.tmps)=true then Oper.wp P o a w K' Q else K' (a.put o.dst undef) w):anyU P md ops Q S (n+1) L a w:=by
 refine⟨fun h0=>absurd (hr▸h0) (by simp),fun j hj=>?_⟩
 rw[hr] at hj
 simp only[List.mem_singleton] at hj
 subst hj
 exact wpOp_step ho (fun K' hK=>h K' (fun a w h1 h2=>hK a w ⟨h1,h2⟩))
theorem zch (hr:Region.ready md ops L=[])(h:Q .normal a w):anyU P md ops Q S n L a w:=by
 cases n with
 |zero=>exact⟨hr,h⟩
 |succ n=>exact⟨fun _=>h,by rw[hr];simp⟩
theorem round_U {lp m:Nat}(c e:Nat)(T1 T2:World->Prop)(hm:P.follows .mixedOrders=true)(hnd:zfw ops=true)(hno: ¬LetsOut Q)
  (h:anyU P .any ops Q (Sc c e T1 T2) ops.size (Array.replicate ops.size false) a w.drew):(Code.region id ops true).wpIn (Fence.wide.inRound lp) m P Q a w:=
 wpIn_region_any hm (any_round lp m hnd hno _ _ _ _ (any_of_U _ _ _ _ h))
theorem zbq (c e:Nat)(T1 T2:World->Prop)(hm:P.follows .mixedOrders=true)(h:anyU P .any ops Q (Sc c e T1 T2) ops.size (Array.replicate ops.size false) a w.drew):(Code.region id ops true).wp P Q a w:=
 wp_region_any hm (any_of_U _ _ _ _ h)
end
section
open Go.RowKit Go.Shelf
attribute [local go_sem] Oper.semAt_some
def qpr (ph:Nat) (l:List Od) (q:List Nat):List Nat:=(q.filter fun i=>bk ph (nth l i)&&(nth l i).price !=0).map fun i=>(nth l i).price
theorem zjs (ph:Nat)(l:List Od)(q:List Nat)(k:Nat)(hk:k<q.length):qpr ph l (q.take (k+1))=qpr ph l (q.take k)++if bk ph (nth l (qat q k))&&(nth l (qat q k)).price !=0 then [(nth l (qat q k)).price] else []:=by
 rw[zag q k (qat q k) (zfa q k hk)]
 unfold qpr
 rw[List.filter_append,List.map_append]
 congr 1
 by_cases h:(bk ph (nth l (qat q k))&&(nth l (qat q k)).price !=0)=true
 .rw[if_pos h,List.filter_cons,if_pos h]
  rfl
 .rw[if_neg h,List.filter_cons,if_neg h]
  rfl
theorem zkg (ph:Nat)(l:List Od)(q:List Nat):(qpr ph l q).length<=q.length:=by
 unfold qpr
 rw[List.length_map]
 exact List.length_filter_le _ _
theorem cand_mem {l:List Od}{q1 q2:List Nat}(ph R:Nat)(h1:Qd l 1 q1)(h2:Qd l 2 q2)(hok:zdm l)(p:Nat):p∈(R::(qpr ph l q1++qpr ph l q2))↔p∈cnd ph R l:=by
 have hpl: ∀i,i<l.length->((nth l i).price !=0)=!pl (nth l i):=by
  intro i hi
  have ho:=hok i hi
  cases hp:pl (nth l i) with
  |true=>simp[ho.plain hp]
  |false=>
   have:=ho.priced hp
   simp
   omega
 have hnth: ∀o∈l,∃i,i<l.length/\nth l i=o:=by
  intro o ho
  obtain ⟨i,hi,e⟩:=List.getElem_of_mem ho
  exact⟨i,hi,by unfold nth;simp[List.getD_eq_getElem?_getD,hi,e]⟩
 have hmem: ∀i,i<l.length->nth l i∈l:=by
  intro i hi
  unfold nth
  simp[List.getD_eq_getElem?_getD,hi]
 unfold cnd qpr inCnd
 simp only[List.mem_cons,List.mem_append,List.mem_map,List.mem_filter]
 constructor
 .rintro (rfl|⟨i,⟨hi,hb⟩,rfl⟩|⟨i,⟨hi,hb⟩,rfl⟩)
  .exact .inl rfl
  .have hl:=(h1.inn i hi).1
   rw[hpl i hl] at hb
   exact .inr ⟨_,⟨hmem i hl,hb⟩,rfl⟩
  .have hl:=(h2.inn i hi).1
   rw[hpl i hl] at hb
   exact .inr ⟨_,⟨hmem i hl,hb⟩,rfl⟩
 .rintro (rfl|⟨o,⟨ho,hb⟩,rfl⟩)
  .exact .inl rfl
  .obtain ⟨i,hi,rfl⟩:=hnth o ho
   have hb':=hb
   simp only[Bool.and_eq_true] at hb'
   rcases (hok i hi).side with s|s
   .exact .inr (.inl ⟨i,⟨h1.has i hi s (zeb hb'.1),by rw[hpl i hi];exact hb⟩,rfl⟩)
   .exact .inr (.inr ⟨i,⟨h2.has i hi s (zeb hb'.1),by rw[hpl i hi];exact hb⟩,rfl⟩)
variable {xs:List Value} {B E n size:Nat} {row:Option Nat} {e:TypeId} {v v0:Value} {A W W' w:World}
theorem zgm (h:W.ownsRow B e size v n xs)(hg:W.grownBy W' row)(hr: ∀r,row=some r-> ∃o:Obj,W.heap[r]?=some o/\o.isCells=false):W'.ownsRow B e size v n xs:=by
 refine zb6 h fun g hgv=>?_
 rcases h.2 with ⟨rfl,_⟩|⟨g',cap,cur,rfl,_,hgg,_⟩
 .cases hgv
 .simp only[Value.ownBlock,Option.some.injEq] at hgv
  subst hgv
  refine hg.block g' (gsi.1 hgg).1 fun e=>?_
  obtain ⟨o,ho,hc⟩:=hr g' e.symm
  rw[hgg] at ho
  cases ho
  cases hc
structure zcf (A:World) (E B:Nat) (v0:Value) (W:World) (C:List Nat) (v:Value):Prop where
 tch:Tch (fun g=>g=E\/v0.ownBlock=some g) A W
 var:Vb W E v
 row:W.ownsRow B 3 1 v C.length (C.map nv)
 lies:v.ownBlock=v0.ownBlock\/ ∀g,v.ownBlock=some g->A.heap.size<=g
 sep:v.ownBlock≠some E
theorem Tch.andThen {F:Nat->Prop}(h:Tch F A W)(ho:W'.os=W.os)(ht:W'.tape=W.tape)(hu:W'.output=W.output)(hs:W.heap.size<=W'.heap.size)(hk: ∀g,g<A.heap.size-> ¬F g->W'.heap[g]?=W.heap[g]?):Tch F A W':=
 ⟨ho.trans h.os,ht.trans h.tape,hu.trans h.output,llt h.size hs,fun g hg hn=>(hk g hg hn).trans (h.blk g hg hn)⟩
variable {C:List Nat}
theorem zcf.start (h:Vb A E v)(hr:A.ownsRow B 3 1 v C.length (C.map nv))(hs:v.ownBlock≠some E):zcf A E B v A C v:=⟨Tch.refl _ _,h,hr,.inl rfl,hs⟩
theorem zcf.kept (h:zcf A E B v0 W C v)(hg:W.grownBy W' row)(hr: ∀r,row=some r->A.heap.size<=r/\ ∃o:Obj,W.heap[r]?=some o/\o.isCells=false):zcf A E B v0 W' C v:=
 ⟨h.tch.andThen hg.os hg.tape hg.output hg.size (fun g hgl _=>hg.block g (lll hgl h.tch.size) (fun e=>by have:=(hr g e.symm).1;omega)),h.var.kept hg (fun r e=>(hr r e).2),zgm h.row hg (fun r e=>(hr r e).2),h.lies,h.sep⟩
theorem zcf.ext (h:zcf A E B v0 W C v)(hb:Below W.heap.size W W'):zcf A E B v0 W' C v:=
 h.kept (row:=none) ⟨hb.os,hb.tape,hb.output,hb.size,fun k hk _=>hb.block k hk⟩ (fun r e=>by cases e)
theorem zcf.push {v':Value}{x:Nat}(h:zcf A E B v0 W C v)(hG:Grew B 3 1 W v W' v' (C.length+1) (C.map nv++[nv x])):zcf A E B v0 (W'.setCell ⟨E,0,none⟩ v') (C++[x]) v'/\W'.cell? ⟨E,0,none⟩=some v/\W'.frozen? ⟨E,0,none⟩=false:=by
 have hv:=h.var.same hG.grown.size (hG.grown.block E h.var.lt (fun e=>h.sep e.symm))
 have hsep:v'.ownBlock≠some E:=by
  rcases hG.lies with h1|h1
  .rw[h1];exact h.sep
  .intro e;have:=h1 E e;have:=h.var.lt;omega
 refine⟨⟨?_,hv.set _,?_,?_,hsep⟩,hv.cell,hv.free⟩
 .refine h.tch.andThen hG.grown.os hG.grown.tape hG.grown.output (by simpa [World.setCell] using hG.grown.size) fun g hg hn=>?_
  rw[bhs _ _ _ _ (fun e=>hn (.inl e))]
  refine hG.grown.block g (lll hg h.tch.size) fun e=>?_
  rcases h.lies with h1|h1
  .exact hn (.inr (by rw[←h1];exact e.symm))
  .have:=h1 g e.symm;omega
 .refine zb1 (by simpa using hG.own) E 0 _ hsep
 .rcases hG.lies with h1|h1
  .rcases h.lies with h2|h2
   .exact .inl (h1.trans h2)
   .exact .inr fun g hg=>h2 g (h1▸hg)
  .exact .inr fun g hg=>llt h.tch.size (h1 g hg)
theorem zcf.below {N:Nat}(h:zcf A E B v0 W C v)(hb:Below N w A)(hN:N<=w.heap.size)(hE:N<=E)(hv: ∀g,v0.ownBlock=some g->N<=g):Below N w W:=by
 refine hb.trans ⟨h.tch.os,h.tch.tape,h.tch.output,h.tch.size,fun g hg=>h.tch.blk g (by have:=hb.size;omega) ?_⟩
 rintro (e|e)
 .omega
 .have:=hv g e;omega
theorem zcf.blkOf (h:zcf A E B v0 W C v){g:Nat}{o:Obj}(hg:A.heap[g]?=some o)(hE:g≠E)(hv:v0.ownBlock≠some g):W.heap[g]?=some o:=
 (h.tch.blk g (gsi.1 hg).1 (fun e=>e.elim hE hv)).trans hg
theorem zae (h:w.ownsRow B e size v n xs): ∃ao cap,v= .slice ao n cap:=by
 rcases h.2 with ⟨h1,h2⟩|⟨g,cap,_,h1,_⟩
 .exact⟨none,0,by rw[h1,h2]⟩
 .exact⟨_,cap,h1⟩
theorem zes {j:Nat}{ob:Obj}(h:w.ownsRow B e size v n xs)(hv:v.ownBlock=some j)(hj:w.heap[j]?=some ob):ob.isCells=true:=by
 rcases h.2 with ⟨rfl,_⟩|⟨g',cap,cur,rfl,_,hgg,_⟩
 .cases hv
 .simp only[Value.ownBlock,Option.some.injEq] at hv
  subst hv
  rw[hgg] at hj
  cases hj
  rfl
theorem zco:Tryz.prog.follows .mixedOrders=true:=by kernel_rfl
theorem zld (b:Bk)(ph:Nat)(l:List Od)(ref:Nat)(w:World)(R:EW)(h:BKs w b ph l)
  (hR: ∀v' w',Below w.heap.size w w'->w'.ownsRow w.heap.size 3 1 v' (ref::(qpr ph l (b.q 1)++qpr ph l (b.q 2))).length ((ref::(qpr ph l (b.q 1)++qpr ph l (b.q 2))).map nv)->R (.returned v') w'):
  Calls Tryz.prog 196 #[.pointer (some ⟨b.K,0,none⟩),.int .i64 (ref:Nat)] w R:=by
 refine(callsIn_wide (n:=2)).1 ?_
 refine callsIn_of_wp_marks Tryz.func196 rfl trivial ?_ rfl
 simp only[Tryz.ntmps196,List.size_toArray,List.length_cons,List.length_nil,Nat.reduceAdd,Nat.reduceSub,Array.replicate_succ,Array.replicate_zero,List.push_toArray,List.append_toArray,List.nil_append,List.cons_append]
 have hf1:Fence.wide.fn 191:=trivial
 have hf2:Fence.wide.fn 192:=trivial
 gi_wp2
 obtain ⟨W1,hW1⟩: ∃W1,(w.alloc (.cells #[.int .i64 (ref:Nat)] 3)).alloc (.cells #[.slice (some ⟨w.heap.size,0,none⟩) 1 1] 26)=W1:=⟨_,rfl⟩
 have hs1:W1.heap.size=w.heap.size+2:=by rw[←hW1];simp
 have hB1:Below w.heap.size w W1:=by rw[←hW1];exact((Below.refl _ w).alloc nr _).alloc (by simp) _
 have v1:Vb W1 (w.heap.size+1) (.slice (some ⟨w.heap.size,0,none⟩) 1 1):=by rw[←hW1];have:=Vb.new (w.alloc (.cells #[.int .i64 (ref:Nat)] 3)) (.slice (some ⟨w.heap.size,0,none⟩) 1 1) 26;simpa using this
 have o1:W1.ownsRow w.heap.size 3 1 (.slice (some ⟨w.heap.size,0,none⟩) 1 1) [ref].length ([ref].map nv):=by
  rw[←hW1]
  exact(zft w #[.int .i64 (ref:Nat)] 1 nr rfl (by decide)).alloc _
 rw[hW1]
 refine callsIn_wide.2 (zj2 b.K _ _ ?_)
 intro W2 hI2 hb2
 rw[hs1] at hI2
 unfold itv
 rw[hs1]
 gi_wp2
 refine callsIn_wide.2 (zh0 b.K _ _ ?_)
 intro W3 hI3 hb3
 unfold itv
 gi_wp2
 have hB3:Below w.heap.size w W3:=zad (zad hB1 hb2) hb3
 have hs3:w.heap.size+2<=W3.heap.size:=by have:=hb2.size;have:=hb3.size;omega
 have hn2:w.heap.size+2<=W2.heap.size:=by have:=hb2.size;omega
 have v3:=(v1.ext hb2).ext hb3
 have o3:=zbe (zbe o1 hb2) hb3
 have hI2':=hI2.ext hb3
 clear hI2 hb2 hb3 v1 o1 hW1 hs1 hB1
 generalize W2.heap.size=n2 at *
 refine wpIn_loop_rounds 3 ?_
 rw[roundsIn_succ]
 gi_wp2
 obtain ⟨W4,hW4⟩: ∃W4,W3.alloc (.cells #[itv (w.heap.size+2) (w.heap.size+2+1),itv n2 (n2+1)] 227)=W4:=⟨_,rfl⟩
 obtain ⟨n3,hn3⟩: ∃n3,W3.heap.size=n3:=⟨_,rfl⟩
 have hb4:Below W3.heap.size W3 W4:=by rw[←hW4];exact br.alloc nr _
 have hBA:Below w.heap.size w W4:=zad hB3 hb4
 have hI1:=hI2'.ext hb4
 have hI2:=hI3.ext hb4
 have d4:W4.heap[n3]?=some (.cells #[itv (w.heap.size+2) (w.heap.size+2+1),itv n2 (n2+1)] 227 (0,0)):=by rw[←hW4,←hn3];exact World.alloc_heap_new _ _
 have hstart:zcf W4 (w.heap.size+1) w.heap.size (.slice (some ⟨w.heap.size,0,none⟩) 1 1) W4 ([ref]++qpr ph l ((b.q 1).take 0)) (.slice (some ⟨w.heap.size,0,none⟩) 1 1):=zcf.start (v3.ext hb4) (by simpa [qpr] using zbe o3 hb4) (by simp[Value.ownBlock])
 have hv0: ∀g,(Value.slice (some ⟨w.heap.size,0,none⟩) 1 1).ownBlock=some g->w.heap.size<=g:=fun g e=>by simp[Value.ownBlock] at e;omega
 have hlen0:[ref].length<=2097152:=by simp
 change Code.wpIn _ _ _ _ _ _ (W3.alloc (.cells #[itv (w.heap.size+2) (w.heap.size+2+1),itv n2 (n2+1)] 227))
 rw[hW4,hn3]
 obtain ⟨a1,cap1,g1,hv1,hN1,ha1,hc1⟩:=h.rowOf 1 (.inl rfl)
 have hbel: ∀{W C v},zcf W4 (w.heap.size+1) w.heap.size (.slice (some ⟨w.heap.size,0,none⟩) 1 1) W C v->Below w.heap.size w W:=fun hj=>hj.below hBA nr (by omega) hv0
 refine zc7 (F:=Fence.wide) (n:=2) rfl (by decide) (gf:=218) (lb:= #[.pointer (some ⟨w.heap.size+2,0,none⟩),.pointer (some ⟨w.heap.size+2+1,0,none⟩)]) rfl trivial zek
  (zgk (2-1) _ _ b.K 1 g1 (b.q 1).length cap1 a1 (fun k=>b.adr (qat (b.q 1) k)) (fun h=>(ha1 h).1) (.inl rfl) (by omega)) rfl
  (fun W hg=>?g) (fun k W=> ∃v,zcf W4 (w.heap.size+1) w.heap.size (.slice (some ⟨w.heap.size,0,none⟩) 1 1) W ([ref]++qpr ph l ((b.q 1).take k)) v)
  (fun _ _=>False)
  ?hJ ?hJx ⟨_,hstart⟩ ?hPhi ?hskip
  (fun k a' _=>bk ph (nth l (qat (b.q 1) k))=true/\a'={tmps:= #[.pointer (some ⟨b.K,0,none⟩),.int .i64 (ref:Nat),undef,undef,.slice none 0 0,.pointer (some ⟨w.heap.size+1,0,none⟩),undef,itv (w.heap.size+2) (w.heap.size+2+1),.pointer (some ⟨b.adr (qat (b.q 1) k),0,none⟩),.int .i64 (ref:Nat),.slice (some ⟨w.heap.size,0,none⟩) 1 1,.pointer (some ⟨b.K,0,none⟩),itv (w.heap.size+2) (w.heap.size+2+1),.pointer (some ⟨b.K,0,none⟩),itv n2 (n2+1),.slice (some ⟨n3,0,none⟩) 2 2,.int .i64 2,.int .i64 0,.bool true,.pointer (some ⟨n3,0,none⟩),itv (w.heap.size+2) (w.heap.size+2+1),itv (w.heap.size+2) (w.heap.size+2+1),.pointer (some ⟨b.adr (qat (b.q 1) k),0,none⟩),undef,undef,undef,undef,undef,undef,undef,undef,undef,undef,undef,undef,undef,undef,undef,undef],defers:=[]})
  ?hAx ?hassign ?hbody ?hdone ?hstop
 case g=>
  have hb:Below W4.heap.size W4 W:=br.grown hg nr (fun j e=>by cases e)
  exact⟨zaa hb hI1.cb,zaa hb hI1.cs,by rw[←hv1];exact((h.ext hBA).ext hb).side 1 (.inl rfl)⟩
 case hJ=>
  rintro k X X' row ⟨v,hj⟩ hg hr
  exact⟨v,hj.kept hg hr⟩
 case hJx=>exact fun _ _ _ _ _ hj _ _=>hj
 case hPhi=>
  rintro k W ⟨v,hj⟩
  exact(h.ext (hbel hj)).prF 1 (.inl rfl) g1 (fun k hk=>zaa (hbel hj) (hc1 k hk)) k
 case hskip=>
  rintro k W hk ⟨v,hj⟩ hin
  rw[(h.ext (hbel hj)).prI 1 (.inl rfl) k hk] at hin
  refine⟨v,?_⟩
  rw[zjs ph l (b.q 1) k hk,if_neg (by simp[hin]),List.append_nil]
  exact hj
 case hAx=>exact fun _ _ _ _ _ _ hj _ _=>hj
 case hassign=>
  rintro l' k W K hk hj hin hK
  have hbk:bk ph (nth l (qat (b.q 1) k))=true:=by
   obtain ⟨v,hj⟩:=hj
   exact((h.ext (hbel hj)).prI 1 (.inl rfl) k hk).1 hin
  gi_wp2
  exact hK _ _ (KeepsFrom.refl _ _) hj ⟨hbk,rfl⟩
 case hbody=>
  rintro l' k a' W hk hl hr ⟨v,hj⟩ ⟨hbk,rfl⟩
  have hb:=hbel hj
  have c3:=((h.ext hb).ord 1 (.inl rfl) _ (zbk (b.q 1) k hk)).c.c3
  have hqs:=zjs ph l (b.q 1) k hk
  rw[hbk] at hqs
  have hlen:([ref]++qpr ph l ((b.q 1).take k)).length<=4194304:=by
   have h1:=zkg ph l ((b.q 1).take k)
   have h2:=List.length_take_le k (b.q 1)
   have h3:=h.cnt 1 (.inl rfl)
   have h4:=hlen0
   simp only[List.length_append] at *
   omega
  have HSp:Hid (∀X v,zcf W4 (w.heap.size+1) w.heap.size (.slice (some ⟨w.heap.size,0,none⟩) 1 1) X ([ref]++qpr ph l ((b.q 1).take k)) v->some (b.adr (qat (b.q 1) k))≠v.ownBlock):=by
   intro X v hX e
   have h1:=(hX.row.lt _ e.symm).1
   have h2:=zab (h.ord 1 (.inl rfl) _ (zbk (b.q 1) k hk)).c.c3
   omega
  generalize nth l (qat (b.q 1) k)=o at *
  generalize b.adr (qat (b.q 1) k)=Eo at *
  have HJ:=zl hj
  have HQ:=zl hqs
  have HH:=zl (hb.size)
  clear hj hqs hb
  unfold itv
  by_cases hp:o.price=0
  .have hq0:(o.price:Int)=0:=by omega
   gi_wp2
   refine⟨KeepsFrom.refl _ _,v,?_⟩
   rw[HQ.o,if_neg (by simp[hp]),List.append_nil]
   exact HJ.o
  .have hq0:((o.price:Int)==0)=false:=by simp;omega
   gi_wp2
   have HJ':Hid (zcf W4 (w.heap.size+1) w.heap.size (.slice (some ⟨w.heap.size,0,none⟩) 1 1) W.drew ([ref]++qpr ph l ((b.q 1).take k)) v):=HJ.o.ext br.drew
   have hsz:w.heap.size<=W.drew.heap.size:=HH.o
   have HK:Hid (KeepsOthers W W.drew):=KeepsOthers.drew _
   have c3':W.drew.cell? ⟨Eo,3,none⟩=some (.int .i64 o.price):=c3
   clear c3 HJ HH
   obtain ⟨C,hC⟩: ∃C,([ref]++qpr ph l ((b.q 1).take k))=C:=⟨_,rfl⟩
   have HC:=zl hC
   rw[hC] at HJ' HSp hlen
   clear hC
   obtain ⟨av,cv,rfl⟩:=zae HJ'.o.row
   refine round_U 8 8 (fun W=>W.cell? ⟨w.heap.size+1,0,none⟩=some (.slice av C.length cv)/\W.cell? ⟨Eo,3,none⟩=some (.int .i64 o.price)) (fun W=>W.cell? ⟨w.heap.size+1,0,none⟩=some (.slice av C.length cv)/\W.cell? ⟨Eo,3,none⟩=some (.int .i64 o.price)) zco (by decide+kernel) (by rintro ⟨_,_,hno⟩;exact hno) ?_
   generalize W.drew=W' at *
   have hT0:=And.intro HJ'.o.var.cell c3'
   refine zc3 (v:=?v0) 0 rfl (by kernel_rfl) (by kernel_rfl) (by kernel_rfl) (by kernel_rfl) (by kernel_rfl) (by kernel_rfl) (fun _ _ _ h=>h) (Or.inl ⟨by rfl,?hy0⟩) ⟨fun _=>hT0,fun _=>hT0⟩ ?_
   case hy0=>(rintro w ⟨hx1,hx2⟩;go_simp;with_reducible rfl)
   refine U0 (v:=?v1) 1 rfl (by kernel_rfl) (fun _ _ _ h=>h) (Or.inl ⟨by rfl,?hy1⟩) ⟨fun _=>hT0,fun _=>hT0⟩ ?_
   case hy1=>(rintro w _;go_simp;with_reducible rfl)
   refine U0 (v:=?v2) 2 rfl (by kernel_rfl) (fun _ _ _ h=>h) (Or.inl ⟨by rfl,?hy2⟩) ⟨fun _=>hT0,fun _=>hT0⟩ ?_
   case hy2=>(rintro w _;go_simp;with_reducible rfl)
   refine U0 (v:=?v3) 3 rfl (by kernel_rfl) (fun _ _ _ h=>h) (Or.inl ⟨by rfl,?hy3⟩) ⟨fun _=>hT0,fun _=>hT0⟩ ?_
   case hy3=>(rintro w _;go_simp;with_reducible rfl)
   refine U0 (v:=?v4) 4 rfl (by kernel_rfl) (fun _ _ _ h=>h) (Or.inl ⟨by rfl,?hy4⟩) ⟨fun _=>hT0,fun _=>hT0⟩ ?_
   case hy4=>(rintro w _;go_simp;with_reducible rfl)
   refine zc3 (v:=?v5) 5 rfl (by kernel_rfl) (by kernel_rfl) (by kernel_rfl) (by kernel_rfl) (by kernel_rfl) (by kernel_rfl) (fun _ _ _ h=>h) (Or.inl ⟨by rfl,?hy5⟩) ⟨fun _=>hT0,fun _=>hT0⟩ ?_
   case hy5=>(rintro w ⟨hx1,hx2⟩;go_simp;with_reducible rfl)
   refine za1 6 (by kernel_rfl) rfl (fun K hK=>?_)
   go_simp
   refine hK.o _ _ ⟨fun _=>⟨zaa (zac _ _) hT0.1,zaa (zac _ _) hT0.2⟩,fun _=>⟨zaa (zac _ _) hT0.1,zaa (zac _ _) hT0.2⟩⟩ ?_
   clear hK K
   refine za1 7 (by kernel_rfl) rfl (fun K hK=>?_)
   refine zej w.heap.size 1 8 C.length _ _ _ HJ'.o.row hsz Tryz.infoInt rfl (by decide) rfl ?c2 ?c3 (by decide) _ _ 26 Tryz.underlying26 rfl rfl rfl rfl ?_
   case c2=>simp[Value.oneCell']
   case c3=>omega
   intro v5 w5 hG5
   obtain ⟨hN5,x5,y5⟩:=HJ'.o.push (x:=o.price) (by simpa [nv] using hG5)
   obtain ⟨av5,cv5,rfl⟩:=zae hG5.own
   refine hK.o _ _ ?hS ?_
   case hS=>
    have hx:=(hG5.grown.cell_far ⟨Eo,3,none⟩ (zab hT0.2) (HSp.o W' _ HJ'.o)).trans hT0.2
    exact⟨fun _=>⟨x5,hx⟩,fun _=>⟨x5,hx⟩⟩
   have HKp:Hid (KeepsFrom W4.heap.size W w5):=(HK.o.trans (KeepsOthers.of_grownBy hG5.grown fun j ob e hj=>zes HJ'.o.row e hj)).from _
   clear hK K hG5 hT0
   refine za1 8 (by kernel_rfl) rfl (fun K hK=>?_)
   go_simp
   refine hK.o _ _ ⟨(fun h=>absurd h (by decide)),(fun h=>absurd h (by decide))⟩ ?_
   clear hK K
   refine zch (by kernel_rfl) ?_
   refine⟨?kk,?vv,?nn⟩
   case nn=>
    rw[HQ.o,if_pos (by simp[hp]),←List.append_assoc,HC.o]
    exact hN5
   case kk=>exact HKp.o.trans ((KeepsOthers.setCell _ _ _).from _)
 case hstop=>rintro _ _ _ _ hx _;exact hx.elim
 case hdone=>
  rintro D1 W5 hD1 ⟨v5,hj5⟩ hK1
  rw[List.take_length] at hj5
  have hB5:Below w.heap.size w W5:=hbel hj5
  have hn3':w.heap.size+2<=n3:=by omega
  have hn2':w.heap.size+2<=n2/\n2+1<W4.heap.size:=⟨by omega,zab hI2.cs⟩
  have d5:W5.heap[n3]?=some (.cells #[itv (w.heap.size+2) (w.heap.size+2+1),itv n2 (n2+1)] 227 (0,0)):=hj5.blkOf d4 (by omega) (by simp[Value.ownBlock];omega)
  have hcells: ∀g,g<W4.heap.size->w.heap.size+2<=g->W5.heap[g]?=W4.heap[g]?:=fun g h1 h2=>hj5.tch.blk g h1 (fun e=>e.elim (fun e=>by omega) (fun e=>by simp[Value.ownBlock] at e;omega))
  have hI2b:Itr W5 n2 (n2+1) b.K 2:=⟨(World.cell?_of_block (a:=⟨n2,0,none⟩) (hcells n2 (by omega) (by omega))).trans hI2.cb,(World.cell?_of_block (a:=⟨n2+1,0,none⟩) (hcells (n2+1) (by omega) (by omega))).trans hI2.cs⟩
  have e1:W5.cell? ⟨n3,1,none⟩=some (itv n2 (n2+1)):=by rw[cell_of_row W5 n3 1 _ _ (0,0) d5];rfl
  have hv5: ∀g,v5.ownBlock=some g->w.heap.size<=g:=fun g e=>(hj5.row.lt g e).1
  have hstart2:zcf W5 (w.heap.size+1) w.heap.size v5 W5 (([ref]++qpr ph l (b.q 1))++qpr ph l ((b.q 2).take 0)) v5:=zcf.start hj5.var (by simpa [qpr] using hj5.row) hj5.sep
  have hlen5:([ref]++qpr ph l (b.q 1)).length<=2097152:=by
   have h1:=zkg ph l (b.q 1)
   have h3:=h.cnt 1 (.inl rfl)
   simp only[List.length_append,List.length_cons,List.length_nil]
   omega
  have hsep5:v5.ownBlock≠some D1:=by
   intro e
   have:=zes hj5.row e hK1
   cases this
  have hD1':D1≠w.heap.size+1:=by omega
  have hB4:=hBA
  clear hbel hstart hv0 hlen0 hI2 hBA
  unfold itv at e1
  gi_wp2
  rw[roundsIn_succ]
  gi_wp2
  have hBA:=hB5
  have hv0:=hv5
  have hstart:=hstart2
  have hlen0:=hlen5
  have hI2:=hI2b
  obtain ⟨a2,cap2,g2,hv2,hN2,ha2,hc2⟩:=h.rowOf 2 (.inr rfl)
  have hbel: ∀{W C v},zcf W5 (w.heap.size+1) w.heap.size v5 W C v->Below w.heap.size w W:=fun hj=>hj.below hBA nr (by omega) hv0
  refine zc7 (F:=Fence.wide) (n:=2) rfl (by decide) (gf:=218) (lb:= #[.pointer (some ⟨n2,0,none⟩),.pointer (some ⟨n2+1,0,none⟩)]) rfl trivial zek
   (zgk (2-1) _ _ b.K 2 g2 (b.q 2).length cap2 a2 (fun k=>b.adr (qat (b.q 2) k)) (fun h=>(ha2 h).1) (.inr rfl) (by omega)) rfl
   (fun W hg=>?g) (fun k W=> ∃v,zcf W5 (w.heap.size+1) w.heap.size v5 W (([ref]++qpr ph l (b.q 1))++qpr ph l ((b.q 2).take k)) v)
   (fun _ _=>False)
   ?hJ ?hJx ⟨_,hstart⟩ ?hPhi ?hskip
   (fun k a' _=>bk ph (nth l (qat (b.q 2) k))=true/\a'={tmps:= #[.pointer (some ⟨b.K,0,none⟩),.int .i64 (ref:Nat),undef,undef,.slice none 0 0,.pointer (some ⟨w.heap.size+1,0,none⟩),undef,itv n2 (n2+1),.pointer (some ⟨b.adr (qat (b.q 2) k),0,none⟩),.int .i64 (ref:Nat),.slice (some ⟨w.heap.size,0,none⟩) 1 1,.pointer (some ⟨b.K,0,none⟩),itv (w.heap.size+2) (w.heap.size+2+1),.pointer (some ⟨b.K,0,none⟩),itv n2 (n2+1),.slice (some ⟨n3,0,none⟩) 2 2,.int .i64 2,.int .i64 1,.bool true,.pointer (some ⟨n3,1,none⟩),itv n2 (n2+1),itv n2 (n2+1),.pointer (some ⟨b.adr (qat (b.q 2) k),0,none⟩),undef,undef,undef,undef,undef,undef,undef,undef,undef,undef,undef,undef,undef,undef,.int .i64 1,undef],defers:=[]})
   ?hAx ?hassign ?hbody ?hdone ?hstop
  case g=>
   have hb:Below W5.heap.size W5 W:=br.grown hg nr (fun j e=>by cases e)
   exact⟨zaa hb hI2.cb,zaa hb hI2.cs,by rw[←hv2];exact((h.ext hBA).ext hb).side 2 (.inr rfl)⟩
  case hJ=>
   rintro k X X' row ⟨v,hj⟩ hg hr
   exact⟨v,hj.kept hg hr⟩
  case hJx=>exact fun _ _ _ _ _ hj _ _=>hj
  case hPhi=>
   rintro k W ⟨v,hj⟩
   exact(h.ext (hbel hj)).prF 2 (.inr rfl) g2 (fun k hk=>zaa (hbel hj) (hc2 k hk)) k
  case hskip=>
   rintro k W hk ⟨v,hj⟩ hin
   rw[(h.ext (hbel hj)).prI 2 (.inr rfl) k hk] at hin
   refine⟨v,?_⟩
   rw[zjs ph l (b.q 2) k hk,if_neg (by simp[hin]),List.append_nil]
   exact hj
  case hAx=>exact fun _ _ _ _ _ _ hj _ _=>hj
  case hassign=>
   rintro l' k W K hk hj hin hK
   have hbk:bk ph (nth l (qat (b.q 2) k))=true:=by
    obtain ⟨v,hj⟩:=hj
    exact((h.ext (hbel hj)).prI 2 (.inr rfl) k hk).1 hin
   gi_wp2
   exact hK _ _ (KeepsFrom.refl _ _) hj ⟨hbk,rfl⟩
  case hbody=>
   rintro l' k a' W hk hl hr ⟨v,hj⟩ ⟨hbk,rfl⟩
   have hb:=hbel hj
   have c3:=((h.ext hb).ord 2 (.inr rfl) _ (zbk (b.q 2) k hk)).c.c3
   have hqs:=zjs ph l (b.q 2) k hk
   rw[hbk] at hqs
   have hlen:(([ref]++qpr ph l (b.q 1))++qpr ph l ((b.q 2).take k)).length<=4194304:=by
    have h1:=zkg ph l ((b.q 2).take k)
    have h2:=List.length_take_le k (b.q 2)
    have h3:=h.cnt 2 (.inr rfl)
    have h4:=hlen0
    simp only[List.length_append] at *
    omega
   have HSp:Hid (∀X v,zcf W5 (w.heap.size+1) w.heap.size v5 X (([ref]++qpr ph l (b.q 1))++qpr ph l ((b.q 2).take k)) v->some (b.adr (qat (b.q 2) k))≠v.ownBlock):=by
    intro X v hX e
    have h1:=(hX.row.lt _ e.symm).1
    have h2:=zab (h.ord 2 (.inr rfl) _ (zbk (b.q 2) k hk)).c.c3
    omega
   generalize nth l (qat (b.q 2) k)=o at *
   generalize b.adr (qat (b.q 2) k)=Eo at *
   have HJ:=zl hj
   have HQ:=zl hqs
   have HH:=zl (hb.size)
   clear hj hqs hb
   unfold itv
   by_cases hp:o.price=0
   .have hq0:(o.price:Int)=0:=by omega
    gi_wp2
    refine⟨KeepsFrom.refl _ _,v,?_⟩
    rw[HQ.o,if_neg (by simp[hp]),List.append_nil]
    exact HJ.o
   .have hq0:((o.price:Int)==0)=false:=by simp;omega
    gi_wp2
    have HJ':Hid (zcf W5 (w.heap.size+1) w.heap.size v5 W.drew (([ref]++qpr ph l (b.q 1))++qpr ph l ((b.q 2).take k)) v):=HJ.o.ext br.drew
    have hsz:w.heap.size<=W.drew.heap.size:=HH.o
    have HK:Hid (KeepsOthers W W.drew):=KeepsOthers.drew _
    have c3':W.drew.cell? ⟨Eo,3,none⟩=some (.int .i64 o.price):=c3
    clear c3 HJ HH
    obtain ⟨C,hC⟩: ∃C,(([ref]++qpr ph l (b.q 1))++qpr ph l ((b.q 2).take k))=C:=⟨_,rfl⟩
    have HC:=zl hC
    rw[hC] at HJ' HSp hlen
    clear hC
    obtain ⟨av,cv,rfl⟩:=zae HJ'.o.row
    refine round_U 8 8 (fun W=>W.cell? ⟨w.heap.size+1,0,none⟩=some (.slice av C.length cv)/\W.cell? ⟨Eo,3,none⟩=some (.int .i64 o.price)) (fun W=>W.cell? ⟨w.heap.size+1,0,none⟩=some (.slice av C.length cv)/\W.cell? ⟨Eo,3,none⟩=some (.int .i64 o.price)) zco (by decide+kernel) (by rintro ⟨_,_,hno⟩;exact hno) ?_
    generalize W.drew=W' at *
    have hT0:=And.intro HJ'.o.var.cell c3'
    refine zc3 (v:=?u0) 0 rfl (by kernel_rfl) (by kernel_rfl) (by kernel_rfl) (by kernel_rfl) (by kernel_rfl) (by kernel_rfl) (fun _ _ _ h=>h) (Or.inl ⟨by rfl,?hz0⟩) ⟨fun _=>hT0,fun _=>hT0⟩ ?_
    case hz0=>(rintro w ⟨hx1,hx2⟩;go_simp;with_reducible rfl)
    refine U0 (v:=?u1) 1 rfl (by kernel_rfl) (fun _ _ _ h=>h) (Or.inl ⟨by rfl,?hz1⟩) ⟨fun _=>hT0,fun _=>hT0⟩ ?_
    case hz1=>(rintro w _;go_simp;with_reducible rfl)
    refine U0 (v:=?u2) 2 rfl (by kernel_rfl) (fun _ _ _ h=>h) (Or.inl ⟨by rfl,?hz2⟩) ⟨fun _=>hT0,fun _=>hT0⟩ ?_
    case hz2=>(rintro w _;go_simp;with_reducible rfl)
    refine U0 (v:=?u3) 3 rfl (by kernel_rfl) (fun _ _ _ h=>h) (Or.inl ⟨by rfl,?hz3⟩) ⟨fun _=>hT0,fun _=>hT0⟩ ?_
    case hz3=>(rintro w _;go_simp;with_reducible rfl)
    refine U0 (v:=?u4) 4 rfl (by kernel_rfl) (fun _ _ _ h=>h) (Or.inl ⟨by rfl,?hz4⟩) ⟨fun _=>hT0,fun _=>hT0⟩ ?_
    case hz4=>(rintro w _;go_simp;with_reducible rfl)
    refine zc3 (v:=?u5) 5 rfl (by kernel_rfl) (by kernel_rfl) (by kernel_rfl) (by kernel_rfl) (by kernel_rfl) (by kernel_rfl) (fun _ _ _ h=>h) (Or.inl ⟨by rfl,?hz5⟩) ⟨fun _=>hT0,fun _=>hT0⟩ ?_
    case hz5=>(rintro w ⟨hx1,hx2⟩;go_simp;with_reducible rfl)
    refine za1 6 (by kernel_rfl) rfl (fun K hK=>?_)
    go_simp
    refine hK.o _ _ ⟨fun _=>⟨zaa (zac _ _) hT0.1,zaa (zac _ _) hT0.2⟩,fun _=>⟨zaa (zac _ _) hT0.1,zaa (zac _ _) hT0.2⟩⟩ ?_
    clear hK K
    refine za1 7 (by kernel_rfl) rfl (fun K hK=>?_)
    refine zej w.heap.size 1 8 C.length _ _ _ HJ'.o.row hsz Tryz.infoInt rfl (by decide) rfl ?c2 ?c3 (by decide) _ _ 26 Tryz.underlying26 rfl rfl rfl rfl ?_
    case c2=>simp[Value.oneCell']
    case c3=>omega
    intro v5 w5 hG5
    obtain ⟨hN5,x5,y5⟩:=HJ'.o.push (x:=o.price) (by simpa [nv] using hG5)
    obtain ⟨av5,cv5,rfl⟩:=zae hG5.own
    refine hK.o _ _ ?hS ?_
    case hS=>
     have hx:=(hG5.grown.cell_far ⟨Eo,3,none⟩ (zab hT0.2) (HSp.o W' _ HJ'.o)).trans hT0.2
     exact⟨fun _=>⟨x5,hx⟩,fun _=>⟨x5,hx⟩⟩
    have HKp:Hid (KeepsFrom W5.heap.size W w5):=(HK.o.trans (KeepsOthers.of_grownBy hG5.grown fun j ob e hj=>zes HJ'.o.row e hj)).from _
    clear hK K hG5 hT0
    refine za1 8 (by kernel_rfl) rfl (fun K hK=>?_)
    go_simp
    refine hK.o _ _ ⟨(fun h=>absurd h (by decide)),(fun h=>absurd h (by decide))⟩ ?_
    clear hK K
    refine zch (by kernel_rfl) ?_
    refine⟨?jj,?uu,?mm⟩
    case mm=>
     rw[HQ.o,if_pos (by simp[hp]),←List.append_assoc,HC.o]
     exact hN5
    case jj=>exact HKp.o.trans ((KeepsOthers.setCell _ _ _).from _)
  case hstop=>rintro _ _ _ _ hx _;exact hx.elim
  case hdone=>
   rintro D2 W6 hD2 ⟨v6,hj6⟩ hK2
   rw[List.take_length] at hj6
   have hB6:Below w.heap.size w W6:=hbel hj6
   have hK1':W6.heap[D1]?=some (.deferred (some [])):=hj6.blkOf hK1 hD1' hsep5
   have hlt1:=(gsi.1 hK1).1
   have hK1'':(W6.putObj D2 (.deferred none)).heap[D1]?=some (.deferred (some [])):=(World.putObj_heap_other (by omega)).trans hK1'
   have x6:=hj6.var.cell
   have hrow6:(((W6.putObj D2 (.deferred none)).putObj D1 (.deferred none))).ownsRow w.heap.size 3 1 v6 (ref::(qpr ph l (b.q 1)++qpr ph l (b.q 2))).length ((ref::(qpr ph l (b.q 1)++qpr ph l (b.q 2))).map nv):=by
    have h1:=zgm (zgm hj6.row (grownBy_putObj' W6 D2 (.deferred none)) (fun r e=>by cases e;exact⟨_,hK2,rfl⟩)) (grownBy_putObj' _ D1 (.deferred none)) (fun r e=>by cases e;exact⟨_,hK1'',rfl⟩)
    simpa using h1
   have hfin:=hR v6 _ ((hB6.trans (belowK_b (w:=w) nr W6 D2 _ (.deferred none) (by have:=hB5.size;omega) hK2 rfl rfl)).trans (belowK_b (w:=w) nr (W6.putObj D2 (.deferred none)) D1 _ (.deferred none) (by have:=hB4.size;omega) hK1'' rfl rfl)) hrow6
   clear hR hbel hstart hrow6
   gi_wp2
   rw[roundsIn_succ]
   gi_wp2
   refine⟨by simp,.inl ⟨_,_,rfl,run_takeDeferred hK2,?_⟩⟩
   refine⟨by simp,.inl ⟨_,_,rfl,run_takeDeferred hK1'',?_⟩⟩
   refine⟨_,?_,hfin⟩
   simp[results,Tryz.f196,go_sem]
end
