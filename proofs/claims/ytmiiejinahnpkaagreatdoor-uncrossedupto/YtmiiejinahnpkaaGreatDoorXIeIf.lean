import Derived.Test.YtmiiejinahnpkaaGreatDoorXIcId
set_option maxRecDepth 100000
set_option maxHeartbeats 4000000
namespace Go.Proofs.YtmiiejinahnpkaaGreatDoor
section
open Go.RowKit Go.Shelf
attribute [local go_sem] Oper.semAt_some
variable {c:Array Value} {B E:Nat} {row:Option Nat} {W W':World}
theorem cells_kept {t:TypeId}(h:W.heap[E]?=some (.cells c t (0,0)))(hg:W.grownBy W' row)(hr: ∀r,row=some r-> ∃o:Obj,W.heap[r]?=some o/\o.isCells=false):W'.heap[E]?=some (.cells c t (0,0)):=by
 refine(hg.block E (gsi.1 h).1 fun e=>?_).trans h
 obtain ⟨o,ho,hc⟩:=hr E e.symm
 rw[h] at ho
 cases ho
 cases hc
theorem zgb {A:World}(h:KeepsFrom B A W)(hg:W.grownBy W' row)(hr: ∀r,row=some r->A.heap.size<=r):KeepsFrom B A W':=
 ⟨llt h.size hg.size,fun k o hB hk ho=>(hg.block k (lll (gsi.1 hk).1 h.size) (fun e=>by have:=hr k e.symm;have:=(gsi.1 hk).1;omega)).trans (h.same k o hB hk ho)⟩
theorem zgf.notAt {g:Nat}{T:List Td}{v:Value}(h:zgf W E B T v)(hg:W.heap[g]?=some (.cells c 106 (0,0))):v.ownBlock≠some g:=by
 intro e
 rcases h.row.2 with ⟨rfl,_⟩|⟨g',cap,cur,rfl,_,hgg,_⟩
 .cases e
 .simp only[Value.ownBlock,Option.some.injEq] at e
  subst e
  rw[hg] at hgg
  cases hgg
theorem bUncross_any (b:Bk)(m:Mk)(p v0:Nat)(u:Int)(w:World)(R:EW)(h:BKs w b m.phase m.all)(hok:zdm m.all)(hq: ∀s,isSd s->Qd m.all s (b.q s))(hrest: ∀j,(nth m.all j).rest<=4294967295)(hd1:v0<=dep m.phase m.all 1 p)(hd2:v0<=dep m.phase m.all 2 p)(hv0:v0<=1000000000)
  (hR: ∀v' tv T w',BKs w' (b.dropped v' (fun j=>decide ((nth (zbg p v0 v0 m).all j).rest=0))) m.phase (zbg p v0 v0 m).all->(∀s,isSd s->(v' s).ownBlock=(b.v s).ownBlock)->Tch b.F w w'->
   w'.ownsRow w.heap.size 233 4 tv T.length (tdcs T)->outs (zbg p v0 v0 m)=outs m++T.map tdev->T.length<=1000000000->R (.returned tv) w'):
  Calls Tryz.prog 167 #[.pointer (some ⟨b.K,0,none⟩),zjk (p,v0,u)] w R:=by
 refine(callsIn_wide (n:=4)).1 ?_
 refine callsIn_of_wp_marks Tryz.func167 rfl trivial ?_ rfl
 simp only[Tryz.ntmps167,List.size_toArray,List.length_cons,List.length_nil,Nat.reduceAdd,Nat.reduceSub,Array.replicate_succ,Array.replicate_zero,List.push_toArray,List.append_toArray,List.nil_append,List.cons_append]
 have hf1:Fence.wide.fn 191:=trivial
 have hf2:Fence.wide.fn 202:=trivial
 unfold zjk
 gi_wp2
 simp only[Nat.add_assoc,Nat.reduceAdd]
 obtain ⟨W1,hW1⟩: ∃W1,(((w.alloc (.cells #[.pointer (some ⟨b.K,0,none⟩)] 102)).alloc (.cells #[.int .i64 (p:Nat),.int .i64 (v0:Nat),.int .i64 u] 205)).alloc (.cells #[.slice none 0 0] 208)).alloc (.cells #[.int .i64 (v0:Nat)] 3)=W1:=⟨_,rfl⟩
 have hs1:W1.heap.size=w.heap.size+4:=by rw[←hW1];simp
 have hB1:Below w.heap.size w W1:=by rw[←hW1];exact((((Below.refl _ w).alloc nr _).alloc (by simp) _).alloc (by simp;omega) _).alloc (by simp;omega) _
 have vb1:Vb W1 w.heap.size (.pointer (some ⟨b.K,0,none⟩)):=by rw[←hW1];exact(((Vb.new w _ _).alloc _).alloc _).alloc _
 have vc1:W1.cell? ⟨w.heap.size+1,0,none⟩=some (.int .i64 (p:Nat)):=by
  have:=heap_alloc_new (w.alloc (.cells #[.pointer (some ⟨b.K,0,none⟩)] 102)) (.cells #[.int .i64 (p:Nat),.int .i64 (v0:Nat),.int .i64 u] 205)
  rw[World.size_alloc] at this
  have h2:=cell_of_row _ _ 0 _ _ (0,0) this
  rw[←hW1]
  exact zaa (zac _ _) (zaa (zac _ _) h2)
 have vt1:Vb W1 (w.heap.size+2) (.slice none 0 0):=by
  have:=(Vb.new ((w.alloc (.cells #[.pointer (some ⟨b.K,0,none⟩)] 102)).alloc (.cells #[.int .i64 (p:Nat),.int .i64 (v0:Nat),.int .i64 u] 205)) (.slice none 0 0) 208).alloc (.cells #[.int .i64 (v0:Nat)] 3)
  rw[←hW1]
  simpa using this
 have vl1:Vb W1 (w.heap.size+3) (.int .i64 (v0:Nat)):=by
  have:=Vb.new (((w.alloc (.cells #[.pointer (some ⟨b.K,0,none⟩)] 102)).alloc (.cells #[.int .i64 (p:Nat),.int .i64 (v0:Nat),.int .i64 u] 205)).alloc (.cells #[.slice none 0 0] 208)) (.int .i64 (v0:Nat)) 3
  rw[←hW1]
  simpa using this
 rw[hW1]
 refine callsIn_wide.2 (zj2 b.K _ _ ?_)
 intro W2 hI2 hb2
 rw[hs1] at hI2
 unfold itv
 rw[hs1]
 gi_wp2
 simp only[Nat.add_assoc,Nat.reduceAdd]
 have hF: ∀g,b.F g->g<w.heap.size:=fun g hg=>h.lt hg
 have hB2:Below w.heap.size w W2:=zad hB1 hb2
 have hs2:w.heap.size+4<=W2.heap.size:=by have:=hb2.size;omega
 have hm0:CP b m p v0 m v0 [] v0:=⟨rfl,nr,hd1,hd2,by simp,by simp,rfl,rfl,fun j=>⟨rfl,rfl,nr⟩,hok,hq⟩
 have hw0:CW b w p m v0 [] (.slice none 0 0) W2:=⟨h.ext hB2,vb1.ext hb2,zaa hb2 vc1,⟨vt1.ext hb2,World.ownsRow_nil _ _ _ _,by simp[Value.ownBlock]⟩,vl1.ext hb2,Tch.of hB2⟩
 have hTF: ∀g,b.T g->b.F g:=by
  rintro g (e|e|e)
  .exact .inl e
  .exact .inr (.inr ⟨1,.inl rfl,.inl e⟩)
  .exact .inr (.inr ⟨2,.inr rfl,.inl e⟩)
 have Hend:Hid (∀(D:Nat) (W:World) (mc:Mk) (T:List Td) (f:Nat) (v:Value),W2.heap.size<=D->CP b m p v0 mc 0 T f->CW b w p mc 0 T v W->W.heap[D]?=some (.deferred (some []))->
   ∀v' w',BKs w' (b.dropped v' (fun j=>decide ((nth mc.all j).rest=0))) mc.phase mc.all->(∀s,isSd s->(v' s).ownBlock=(b.v s).ownBlock)->Tch b.T W w'->w'.cell? ⟨w.heap.size+2,0,none⟩=some v/\w'.heap[D]?=some (.deferred (some []))/\R (.returned v) (w'.putObj D (.deferred none))):=by
  intro D W mc T f v hD h1 h2 hK v' w' g1 g2 g3
  have hlt: ∀g,b.T g->g<w.heap.size:=fun g hg=>hF g (hTF g hg)
  have t1:=h2.tv.same g3.size (g3.blk _ h2.tv.var.lt (fun e=>by have:=hlt _ e;omega)) (fun g hg=>g3.blk g (h2.tv.row.lt g hg).2 (fun e=>by have:=hlt _ e;have:=(h2.tv.row.lt g hg).1;omega))
  have hK6:w'.heap[D]?=some (.deferred (some [])):=(g3.blk D (gsi.1 hK).1 (fun e=>by have:=hlt _ e;omega)).trans hK
  refine⟨t1.var.cell,hK6,?_⟩
  have hbf: ∀g,(b.dropped v' (fun j=>decide ((nth mc.all j).rest=0))).F g->b.F g:=by
   rintro g (e|e|⟨s,hs,e|⟨i,hi,e⟩⟩)
   .exact .inl e
   .exact .inr (.inl e)
   .exact .inr (.inr ⟨s,hs,.inl ((g2 s hs).symm.trans e)⟩)
   .exact .inr (.inr ⟨s,hs,.inr ⟨i,(List.mem_filter.1 hi).1,e⟩⟩)
  have hout:=h1.out
  have hph:=h1.ph
  have h4:T.length<=1000000000:=by have:=h1.cnt;omega
  have h3:=h1.done
  subst h3
  refine hR v' v T _ ?_ g2 ?_ ?_ hout h4
  .rw[←hph]
   exact g1.keep fun g hg=>World.putObj_heap_other (by have:=hF g (hbf g hg);omega)
  .exact(h2.tch.trans (g3.widen hTF)).andThen rfl rfl rfl (by simp) (fun g hg _=>World.putObj_heap_other (by omega))
  .exact zid (zgm t1.row (grownBy_putObj' w' D (.deferred none)) (fun r e=>by cases e;exact⟨_,hK6,rfl⟩)) (by omega)
 obtain ⟨a1,cap1,g1,hv1,hN1,ha1,hc1⟩:=h.rowOf 1 (.inl rfl)
 obtain ⟨a2,cap2,g2,hv2,hN2,ha2,hc2⟩:=h.rowOf 2 (.inr rfl)
 clear hc1 hc2
 refine zc7 (F:=Fence.wide) (n:=4) rfl (by decide) (gf:=218) (lb:= #[.pointer (some ⟨w.heap.size+4,0,none⟩),.pointer (some ⟨w.heap.size+5,0,none⟩)]) rfl trivial zek
  (zgk (4-1) _ _ b.K 1 g1 (b.q 1).length cap1 a1 (fun k=>b.adr (qat (b.q 1) k)) (fun h=>(ha1 h).1) (.inl rfl) (by omega)) rfl
  (fun W hg=>?g) (fun k W=> ∃mc left T f v,CP b m p v0 mc left T f/\CW b w p mc left T v W/\ziy b 1 k mc (left=0))
  (fun c W=>c= .exit 0/\ ∃mc T f v,CP b m p v0 mc 0 T f/\CW b w p mc 0 T v W)
  ?hJ ?hJx ⟨m,v0,[],_,_,hm0,hw0,fun j hj=>by simp at hj⟩ ?hPhi ?hskip
  (fun k a' W=>PrI (fun k=>b.adr (qat (b.q 1) k)) k W/\ ∃Eb:Nat,w.heap.size+4<=Eb/\W.heap[Eb]?=some (.cells #[.pointer (some ⟨b.adr (qat (b.q 1) k),0,none⟩)] 106 (0,0))/\a'={tmps:= #[.pointer (some ⟨b.K,0,none⟩),.agg #[.int .i64 (p:Nat),.int .i64 (v0:Nat),.int .i64 u],.pointer (some ⟨w.heap.size,0,none⟩),.pointer (some ⟨w.heap.size+1,0,none⟩),.slice none 0 0,.pointer (some ⟨w.heap.size+2,0,none⟩),.pointer (some ⟨w.heap.size+3,0,none⟩),.pointer (some ⟨Eb,0,none⟩),undef,undef,.pointer (some ⟨w.heap.size+1,1,none⟩),.int .i64 (v0:Nat),.pointer (some ⟨b.K,0,none⟩),itv (w.heap.size+4) (w.heap.size+5),.pointer (some ⟨b.adr (qat (b.q 1) k),0,none⟩),undef,undef,undef,undef,undef,undef,undef,undef,undef,undef,undef,undef,undef,undef,undef,undef,undef,undef,undef,undef,undef,undef,undef,undef,undef,undef,undef,undef,undef,undef,undef,undef,undef,undef],defers:=[]})
  ?hAx ?hassign ?hbody ?hdone ?hstop
 case g=>
  have hb:Below W2.heap.size W2 W:=br.grown hg nr (fun j e=>by cases e)
  exact⟨zaa hb hI2.cb,zaa hb hI2.cs,by rw[←hv1];exact((h.ext hB2).ext hb).side 1 (.inl rfl)⟩
 case hJ=>
  rintro k X X' row ⟨mc,left,T,f,v,h1,h2,h3⟩ hg hr
  exact⟨mc,left,T,f,v,h1,h2.kept hF hg (fun r e=>⟨by have:=(hr r e).1;omega,(hr r e).2⟩),h3⟩
 case hJx=>
  rintro c _ X X' row ⟨hc,mc,T,f,v,h1,h2⟩ hg hr
  exact⟨hc,mc,T,f,v,h1,h2.kept hF hg (fun r e=>⟨by have:=(hr r e).1;omega,(hr r e).2⟩)⟩
 case hPhi=>
  rintro k W ⟨mc,left,T,f,v,h1,h2,h3⟩
  exact h2.bks.prF 1 (.inl rfl) g1 (fun k hk=>h2.bks.rowCells 1 (.inl rfl) g1 (fun h=>(ha1 h).2) k hk) k
 case hskip=>
  rintro k W hk ⟨mc,left,T,f,v,h1,h2,h3⟩ hin
  rw[h2.bks.prI 1 (.inl rfl) k hk] at hin
  refine⟨mc,left,T,f,v,h1,h2,fun j hj=>?_⟩
  rcases zcw (b.q 1) k j hj hk with h5|rfl
  .exact h3 j h5
  .exact .inl (by simpa using hin)
 case hAx=>
  rintro k a' _ A A' row ⟨⟨p1,r,p2,p3⟩,Eb,q1,q2,q3⟩ hg hr
  exact⟨⟨cell_kept p1 hg (fun r e=>(hr r e).2),r,p2,cell_kept p3 hg (fun r e=>(hr r e).2)⟩,Eb,q1,cells_kept q2 hg (fun r e=>(hr r e).2),q3⟩
 case hassign=>
  rintro l' k W K hk ⟨mc,left,T,f,v,h1,h2,h3⟩ ⟨p1,r,p2,p3⟩ hK
  have hlt:=h2.vl.lt
  have hb:=zac W (.cells #[.pointer (some ⟨b.adr (qat (b.q 1) k),0,none⟩)] 106)
  have hJ2:=h2.ext hb
  have p1':=zaa hb p1
  have p3':=zaa hb p3
  have hnew:=heap_alloc_new W (.cells #[.pointer (some ⟨b.adr (qat (b.q 1) k),0,none⟩)] 106)
  have HK:=zl hK
  clear hK h2
  gi_wp2
  exact HK.o _ _ ((KeepsOthers.alloc _ _).from _) ⟨mc,left,T,f,v,h1,hJ2,h3⟩ ⟨⟨p1',r,p2,p3'⟩,W.heap.size,by omega,hnew,rfl⟩
 case hbody=>
  rintro l' k a' W hk hl ⟨rl,hr⟩ ⟨mc,left,T,f,v,h1,h2,h3⟩ ⟨hin,Eb,hEb,hEc,rfl⟩
  have x0:=h2.vb.cell
  have hs':(Fence.wide.inRound l').fn 192:=trivial
  have HD:Hid ((Fence.wide.inRound l').depth.isSome=true->False):=fun h=>by cases h
  have hbk:=(h2.bks.prI 1 (.inl rfl) k hk).1 hin
  have him:=zbk (b.q 1) k hk
  have hwt:wt mc.phase (nth mc.all (qat (b.q 1) k))=false:=by
   rw[zj3] at hbk
   simp only[Bool.and_eq_true,Bool.not_eq_true'] at hbk
   exact hbk.1
  have hlt:=h2.vl.lt
  have Hfirst:Hid (∀mc left T f,CP b m p v0 mc left T f->ziy b 1 k mc (left=0)->left≠0->bk mc.phase (nth mc.all (qat (b.q 1) k))=true->za0 mc.phase mc.all 1 mc.all.length=(qat (b.q 1) k:Nat)):=fun mc left T f g1 g2 g3 g4=>g1.first (.inl rfl) hk g2 g3 g4
  have Hnext:Hid (∀mc left,ziy b 1 k mc (left=0)->(bk mc.phase (nth mc.all (qat (b.q 1) k))=false\/left=0)->ziy b 1 (k+1) mc (left=0)):=by
   intro mc left g1 g2 x hx
   rcases zcw (b.q 1) k x hx hk with g3|rfl
   .exact g1 x g3
   .exact g2
  clear hbk hin
  generalize qat (b.q 1) k=i at *
  have x7:W.cell? ⟨Eb,0,none⟩=some (.pointer (some ⟨b.adr i,0,none⟩)):=by rw[cell_of_row W Eb 0 _ _ (0,0) hEc];rfl
  clear x7
  unfold itv
  gi_wp2
  refine⟨trivial,CallsIn.inRound l' (callsIn_wide.2 (zh0 b.K _ _ ?_))⟩
  intro W3 hI3 hb3
  unfold itv
  gi_wp2
  have hr3:W3.heap[l']?=some (.loop rl):=(hb3.block l' (gsi.1 hr).1).trans hr
  have hK3:KeepsFrom w.heap.size W W3:=⟨hb3.size,fun g ob _ hgo _=>(hb3.block g (gsi.1 hgo).1).trans hgo⟩
  have hE3:W3.heap[Eb]?=some (.cells #[.pointer (some ⟨b.adr i,0,none⟩)] 106 (0,0)):=(hb3.block Eb (gsi.1 hEc).1).trans hEc
  have hsz3:=hb3.size
  have hq2:=(h2.ext hb3).bks.side 2 (.inr rfl)
  have Hfin2:Hid (∀mc left T f v X,CP b m p v0 mc left T f->CW b w p mc left T v X->ziy b 1 k mc (left=0)->(left=0\/(nth mc.all i).rest=0)->KeepsFrom w.heap.size W X->((left:Int)==0)=true->KeepsFrom W2.heap.size W X/\(Code.exit 0=Code.exit 0/\ ∃mc T f v,CP b m p v0 mc 0 T f/\CW b w p mc 0 T v X)):=by
   intro mc left T f v X g1 g2 g3 g4 g5 g6
   obtain rfl:left=0:=by simpa using g6
   exact⟨⟨g5.size,fun x ob hx=>g5.same x ob (by omega)⟩,rfl,mc,T,f,v,g1,g2⟩
  have Hfin3:Hid (∀mc left T f v X,CP b m p v0 mc left T f->CW b w p mc left T v X->ziy b 1 k mc (left=0)->(left=0\/(nth mc.all i).rest=0)->KeepsFrom w.heap.size W X->KeepsFrom W2.heap.size W X/\ ∃mc left T f v,CP b m p v0 mc left T f/\CW b w p mc left T v X/\ziy b 1 (k+1) mc (left=0)):=by
   intro mc left T f v X g1 g2 g3 g4 g5
   refine⟨⟨g5.size,fun x ob hx=>g5.same x ob (by omega)⟩,mc,left,T,f,v,g1,g2,Hnext.o mc left g3 ?_⟩
   rcases g4 with e|e
   .exact .inr e
   .left
    rw[zj3,e]
    simp
  refine zgu (F:=Fence.wide.inRound l') (n:=2) rfl hr3 (by decide) (gf:=218) (lb:= #[.pointer (some ⟨W.heap.size,0,none⟩),.pointer (some ⟨W.heap.size+1,0,none⟩)]) rfl trivial zek
   ((zgk (2-1) _ _ b.K 2 g2 (b.q 2).length cap2 a2 (fun k=>b.adr (qat (b.q 2) k)) (fun h=>(ha2 h).1) (.inr rfl) (by omega)).inRound l') rfl
   (fun X hg=>?gi) (fun k2 X=> ∃mc left T f v,(CP b m p v0 mc left T f/\CW b w p mc left T v X/\ziy b 1 k mc (left=0))/\ziy b 2 k2 mc (left=0\/(nth mc.all i).rest=0)/\wt mc.phase (nth mc.all i)=false/\X.heap[Eb]?=some (.cells #[.pointer (some ⟨b.adr i,0,none⟩)] 106 (0,0))/\KeepsFrom w.heap.size W X)
   (fun c X=>c= .exit 2/\ ∃mc left T f v,(CP b m p v0 mc left T f/\CW b w p mc left T v X/\ziy b 1 k mc (left=0))/\(left=0\/(nth mc.all i).rest=0)/\KeepsFrom w.heap.size W X)
   ?hJi ?hJxi ⟨mc,left,T,f,v,⟨h1,h2.ext hb3,h3⟩,fun x hx=>by simp at hx,hwt,hE3,hK3⟩ ?hPhii ?hskipi
   (fun k2 a' X=>PrI (fun k=>b.adr (qat (b.q 2) k)) k2 X/\a'={tmps:= #[.pointer (some ⟨b.K,0,none⟩),.agg #[.int .i64 (p:Nat),.int .i64 (v0:Nat),.int .i64 u],.pointer (some ⟨w.heap.size,0,none⟩),.pointer (some ⟨w.heap.size+1,0,none⟩),.slice none 0 0,.pointer (some ⟨w.heap.size+2,0,none⟩),.pointer (some ⟨w.heap.size+3,0,none⟩),.pointer (some ⟨Eb,0,none⟩),.pointer (some ⟨b.adr (qat (b.q 2) k2),0,none⟩),undef,.pointer (some ⟨w.heap.size+1,1,none⟩),.int .i64 (v0:Nat),.pointer (some ⟨b.K,0,none⟩),itv (w.heap.size+4) (w.heap.size+5),.pointer (some ⟨b.adr i,0,none⟩),.pointer (some ⟨b.K,0,none⟩),itv W.heap.size (W.heap.size+1),.pointer (some ⟨b.adr (qat (b.q 2) k2),0,none⟩),undef,undef,undef,undef,undef,undef,undef,undef,undef,undef,undef,undef,undef,undef,undef,undef,undef,undef,undef,undef,undef,undef,undef,undef,undef,undef,undef,undef,undef,undef,undef],defers:=[]})
   ?hAxi ?hassigni ?hbodyi ?hdonei ?hstopi
  case gi=>
   have hb:Below W3.heap.size W3 X:=br.grown hg nr (fun j e=>by cases e)
   exact⟨zaa hb hI3.cb,zaa hb hI3.cs,by rw[←hv2];exact zaa hb hq2⟩
  case hJi=>
   rintro k2 X X' row ⟨mc,left,T,f,v,⟨h1,h2,h3⟩,h4,h5,h6,h7⟩ hg hr
   exact⟨mc,left,T,f,v,⟨h1,h2.kept hF hg (fun r e=>⟨by have:=(hr r e).1;omega,(hr r e).2⟩),h3⟩,h4,h5,cells_kept h6 hg (fun r e=>(hr r e).2),zgb h7 hg (fun r e=>by have:=(hr r e).1;omega)⟩
  case hJxi=>
   rintro c _ X X' row ⟨hc,mc,left,T,f,v,⟨h1,h2,h3⟩,h4,h7⟩ hg hr
   exact⟨hc,mc,left,T,f,v,⟨h1,h2.kept hF hg (fun r e=>⟨by have:=(hr r e).1;omega,(hr r e).2⟩),h3⟩,h4,zgb h7 hg (fun r e=>by have:=(hr r e).1;omega)⟩
  case hPhii=>
   rintro k2 X ⟨mc,left,T,f,v,⟨h1,h2,h3⟩,_⟩
   exact h2.bks.prF 2 (.inr rfl) g2 (fun k hk=>h2.bks.rowCells 2 (.inr rfl) g2 (fun h=>(ha2 h).2) k hk) k2
  case hskipi=>
   rintro k2 X hk2 ⟨mc,left,T,f,v,⟨h1,h2,h3⟩,h4,h5⟩ hin
   rw[h2.bks.prI 2 (.inr rfl) k2 hk2] at hin
   refine⟨mc,left,T,f,v,⟨h1,h2,h3⟩,fun j hj=>?_,h5⟩
   rcases zcw (b.q 2) k2 j hj hk2 with h6|rfl
   .exact h4 j h6
   .exact .inl (by simpa using hin)
  case hAxi=>
   rintro k a' _ A A' row ⟨⟨p1,r,p2,p3⟩,q3⟩ hg hr
   exact⟨⟨cell_kept p1 hg (fun r e=>(hr r e).2),r,p2,cell_kept p3 hg (fun r e=>(hr r e).2)⟩,q3⟩
  case hassigni=>
   rintro l2 k2 X K hk2 hj hin2 hK
   gi_wp2
   exact hK _ _ (KeepsFrom.refl _ _) hj ⟨hin2,rfl⟩
  case hdonei=>
   rintro X ⟨mc,left,T,f,v,⟨h1,h2,h3⟩,h4,h5,h6,h7⟩
   have hor:left=0\/(nth mc.all i).rest=0:=by
    by_cases h0:left=0\/(nth mc.all i).rest=0
    .exact h0
    .exact .inl (h1.none (s:=2) (.inr rfl) (fun j hj=>(h4 j (by rw[List.take_length];exact hj)).resolve_right h0))
   have z1:=Hfin2.o mc left T f v X h1 h2 h3 hor h7
   have z2:=Hfin3.o mc left T f v X h1 h2 h3 hor h7
   have z3:=h2.vl.cell
   clear h1 h2 h3 h4 h6 h7 hor Hfin2 Hfin3 Hend Hnext Hfirst
   by_cases hl0:left=0
   .have f0:(left:Int)=0:=by omega
    have z4:=z1 (by simp[hl0])
    clear z1 z2
    gi_wp2
    obtain ⟨q1,_,mc',T',f',v',q2,q3⟩:=z4
    first|exact⟨q1,rfl,mc',T',⟨f',q2⟩,v',q3⟩|exact⟨q1,rfl,mc',T',f',v',q2,q3⟩
   .have f0:((left:Int)==0)=false:=by simp;omega
    clear z1
    gi_wp2
    exact z2
  case hstopi=>
   rintro c X ⟨rfl,mc,left,T,f,v,⟨h1,h2,h3⟩,hor,h7⟩
   have z1:=Hfin2.o mc left T f v X h1 h2 h3 hor h7
   have z2:=Hfin3.o mc left T f v X h1 h2 h3 hor h7
   have z3:=h2.vl.cell
   clear h1 h2 h3 h7 hor Hfin2 Hfin3 Hend Hnext Hfirst
   by_cases hl0:left=0
   .have f0:(left:Int)=0:=by omega
    have z4:=z1 (by simp[hl0])
    clear z1 z2
    gi_wp2
    obtain ⟨q1,_,mc',T',f',v',q2,q3⟩:=z4
    first|exact⟨q1,rfl,mc',T',⟨f',q2⟩,v',q3⟩|exact⟨q1,rfl,mc',T',f',v',q2,q3⟩
   .have f0:((left:Int)==0)=false:=by simp;omega
    clear z1
    gi_wp2
    exact z2
  case hbodyi=>
   rintro l2 k2 a' X hk2 hl2 hr2 ⟨mc,left,T,f,v,⟨h1,h2,h3⟩,h4,h5,h6,h7⟩ ⟨hin2,rfl⟩
   have hbk2:=(h2.bks.prI 2 (.inr rfl) k2 hk2).1 hin2
   have hjm:=zbk (b.q 2) k2 hk2
   have hOj:=h2.bks.ord 2 (.inr rfl) _ hjm
   have hOi:=h2.bks.ord 1 (.inl rfl) _ him
   have hEi:b.adr i<w.heap.size:=hF _ (.inr (.inr ⟨1,.inl rfl,.inr ⟨_,him,rfl⟩⟩))
   have hEj:b.adr (qat (b.q 2) k2)<w.heap.size:=hF _ (.inr (.inr ⟨2,.inr rfl,.inr ⟨_,hjm,rfl⟩⟩))
   have hb1:(nth mc.all i).rest<=4294967295:=llt (h1.sh _).2.2 (hrest _)
   have hb2':(nth mc.all (qat (b.q 2) k2)).rest<=4294967295:=llt (h1.sh _).2.2 (hrest _)
   have hpj:=zeb hbk2
   have hleft:left<=1000000000:=by have:=h1.cnt;omega
   have hTl:T.length<=1000000000:=by have:=h1.cnt;omega
   have HC:=zl h1
   have HW:=zl h2
   have H3:=zl h3
   have H6:=zl h6
   have H7:=zl h7
   have Hstep:Hid (left≠0->(nth mc.all i).rest≠0-> ∀n,min left (min (nth mc.all i).rest (nth mc.all (qat (b.q 2) k2)).rest)=n-> ∃f',(CP b m p v0 (zbn mc i (qat (b.q 2) k2) n p) (left-n) (T++[tdOf (nth mc.all i) (nth mc.all (qat (b.q 2) k2)) n p]) f'/\ziy b 1 k (zbn mc i (qat (b.q 2) k2) n p) (left-n=0))/\
     ziy b 2 (k2+1) (zbn mc i (qat (b.q 2) k2) n p) (left-n=0\/(nth (zbn mc i (qat (b.q 2) k2) n p).all i).rest=0)/\wt (zbn mc i (qat (b.q 2) k2) n p).phase (nth (zbn mc i (qat (b.q 2) k2) n p).all i)=false/\i≠qat (b.q 2) k2/\i<mc.all.length/\qat (b.q 2) k2<mc.all.length):=by
    intro hl0 hr0 n hn
    have hbi:bk mc.phase (nth mc.all i)=true:=by
     rw[zj3,h5]
     simp
     omega
    have hfi:=Hfirst.o mc left T f h1 h3 hl0 hbi
    have hfj:=h1.first (.inr rfl) hk2 h4 (fun e=>e.elim hl0 hr0) hbk2
    obtain ⟨f',hC',hne,hil,hjl,hn0,hx⟩:=h1.step hl0 hfi hfj n hn
    refine⟨f',⟨hC',fun x hx1=>?_⟩,fun x hx1=>?_,?_,hne,hil,hjl⟩
    .have hxx:=hx x
     rw[zb4]
     exact .inl (bk_less hxx.1 (by rw[hxx.2];split<;>omega) ((h3 x hx1).resolve_right hl0))
    .have hxx:=hx x
     rw[zb4]
     rcases zcw (b.q 2) k2 x hx1 hk2 with g1|rfl
     .exact .inl (bk_less hxx.1 (by rw[hxx.2];split<;>omega) ((h4 x g1).resolve_right (fun e=>e.elim hl0 hr0)))
     .have hxi:=hx i
      rw[if_pos (.inl rfl)] at hxi
      rw[if_pos (.inr rfl)] at hxx
      by_cases hc:n=(nth mc.all (qat (b.q 2) k2)).rest
      .left
       rw[zj3,hxx.2]
       have:(nth mc.all (qat (b.q 2) k2)).rest-n=0:=by omega
       rw[this]
       simp
      .right
       rw[hxi.2]
       omega
    .rw[zb4,wt_typ _ _ _ (hx i).1]
     exact h5
   have HTr:Hid (∀(n:Nat) (X X':World),CW b w p mc left T v X->i≠qat (b.q 2) k2->i<mc.all.length->qat (b.q 2) k2<mc.all.length->OB X' (b.adr i) {nth mc.all i with rest:=(nth mc.all i).rest-n} (wt mc.phase (nth mc.all i)) i->OB X' (b.adr (qat (b.q 2) k2)) {nth mc.all (qat (b.q 2) k2) with rest:=(nth mc.all (qat (b.q 2) k2)).rest-n} (wt mc.phase (nth mc.all (qat (b.q 2) k2))) (qat (b.q 2) k2)->
     Tch (fun g=>g=b.adr i\/g=b.adr (qat (b.q 2) k2)) X X'->CW b w p (zbn mc i (qat (b.q 2) k2) n p) left T v X'):=fun n X X' g1 g2 g3 g4 g5 g6 g7=>g1.trade hF (.inl rfl) him (.inr rfl) hjm g2 g3 g4 g5 g6 g7
   have HEne:Hid (i≠qat (b.q 2) k2->b.adr i≠b.adr (qat (b.q 2) k2)):=fun g e=>g (h2.bks.adrOne (.inr rfl) hjm (.inl rfl) him e)
   have x7:X.cell? ⟨Eb,0,none⟩=some (.pointer (some ⟨b.adr i,0,none⟩)):=by rw[cell_of_row X Eb 0 _ _ (0,0) h6];rfl
   have x4:=hOi.c.c4
   have y4:=hOj.c.c4
   have xl:=h2.vl.cell
   clear h1 h2 h3 h4 h5 h6 h7 hbk2 hin2 Hfin2 Hfin3 Hend Hnext Hfirst hR h hq hok hm0 hw0 hI2 vb1 vc1 vt1 vl1 hwt hI3 hE3 hK3 hr3 hq2 x0 hEc hr ha1 ha2
   generalize qat (b.q 2) k2=j at *
   obtain ⟨o1,e1⟩: ∃o1,nth mc.all i=o1:=⟨_,rfl⟩
   obtain ⟨o2,e2⟩: ∃o2,nth mc.all j=o2:=⟨_,rfl⟩
   rw[e1,e2] at Hstep HTr
   rw[e1] at hOi hb1 x4
   rw[e2] at hOj hb2' y4 hpj
   obtain ⟨E1,hE1⟩: ∃E,b.adr i=E:=⟨_,rfl⟩
   obtain ⟨E2,hE2⟩: ∃E,b.adr j=E:=⟨_,rfl⟩
   rw[hE1,hE2] at HTr HEne
   rw[hE1] at hOi hEi x7 x4 H6
   rw[hE2] at hOj hEj y4
   rw[hE1,hE2]
   unfold itv
   gi_wp2
   refine zh9 zco (by decide+kernel) (by rintro ⟨_,_,hno⟩;exact hno) (by kernel_rfl) ?_
   have HW':Hid (CW b w p mc left T v X.drew):=HW.o.ext br.drew
   have H7':Hid (KeepsFrom w.heap.size W X.drew):=H7.o.trans ((KeepsOthers.drew _).from _)
   have HKx:Hid (KeepsFrom w.heap.size X X.drew):=(KeepsOthers.drew _).from _
   have hOi':OB X.drew E1 o1 (wt mc.phase o1) i:=hOi
   have hOj':OB X.drew E2 o2 (wt mc.phase o2) j:=hOj
   have H6':Hid (X.drew.heap[Eb]?=some (.cells #[.pointer (some ⟨E1,0,none⟩)] 106 (0,0))):=H6.o
   have x7':X.drew.cell? ⟨Eb,0,none⟩=_:=x7
   have xl':X.drew.cell? ⟨w.heap.size+3,0,none⟩=_:=xl
   clear x7 xl x4 y4 hOi hOj HW H7 H6
   generalize X.drew=Y at *
   have x4:=hOi'.c.c4
   have y4:=hOj'.c.c4
   iterate 11 (refine StH.step (fun K hK=>?_);go_simp;refine hK _ ?_;clear hK K)
   obtain ⟨n,hn⟩: ∃n,min left (min o1.rest o2.rest)=n:=⟨_,rfl⟩
   refine StH.step (fun K hK=>?_)
   go_simp
   rw[show (if (left:Int)<(if o2.rest<o1.rest then (o2.rest:Int) else (o1.rest:Int)) then (left:Int) else if o2.rest<o1.rest then (o2.rest:Int) else (o1.rest:Int))=(n:Int) by (split<;>split<;>omega)]
   refine hK _ ?_
   clear hK K
   (refine StH.step (fun K hK=>?_);go_simp;refine hK _ ?_;clear hK K)
   refine StH.nil ?_
   by_cases hn0:n=0
   .have f0:(n:Int)=0:=by omega
    have hor:left=0\/(nth mc.all i).rest=0:=by rw[e1];omega
    have Hor:=zl hor
    clear hor hn
    gi_wp2
    refine⟨⟨HKx.o.size,fun x ob hx=>HKx.o.same x ob (by omega)⟩,rfl,?_⟩
    first|exact⟨mc,left,T,f,v,⟨HC.o,HW'.o,H3.o⟩,Hor.o,H7'.o⟩|exact⟨mc,left,⟨T,⟨f,HC.o⟩,⟨v,HW'.o⟩,H3.o⟩,Hor.o,H7'.o⟩
   .have f0:((n:Int)==0)=false:=by simp;omega
    have hl0:left≠0:=by omega
    have hr0:o1.rest≠0:=by omega
    have hn1:n<=o1.rest:=by omega
    have hn2:n<=o2.rest:=by omega
    have hn3:n<=left:=by omega
    obtain ⟨f',hC',hS',hwt',hne,hil,hjl⟩:=Hstep.o hl0 hr0 n hn
    have hEne:=HEne.o hne
    have HS':Hid _:=hS'
    have HC':Hid _:=hC'
    have Hwt':Hid _:=hwt'
    clear hS' hC' hwt' Hstep
    gi_wp2
    have HW2:Hid (CW b w p mc left T v Y.drew):=HW'.o.ext br.drew
    have H72:Hid (KeepsFrom w.heap.size W Y.drew):=H7'.o.trans ((KeepsOthers.drew _).from _)
    have HKy:Hid (KeepsFrom w.heap.size X Y.drew):=HKx.o.trans ((KeepsOthers.drew _).from _)
    have hOi2:OB Y.drew E1 o1 (wt mc.phase o1) i:=hOi'
    have hOj2:OB Y.drew E2 o2 (wt mc.phase o2) j:=hOj'
    have H62:Hid (Y.drew.heap[Eb]?=some (.cells #[.pointer (some ⟨E1,0,none⟩)] 106 (0,0))):=H6'.o
    obtain ⟨av,cv,hvv⟩:=zae HW2.o.tv.row
    have hT1:Y.drew.cell? ⟨Eb,0,none⟩=some (.pointer (some ⟨E1,0,none⟩))/\Y.drew.cell? ⟨w.heap.size+1,0,none⟩=some (.int .i64 (p:Nat)):=⟨x7',HW2.o.vc⟩
    have hT2:Y.drew.cell? ⟨w.heap.size+2,0,none⟩=some (.slice av T.length cv):=by rw[←hvv];exact HW2.o.tv.var.cell
    refine round_U (lp:=l2) 6 9 (fun W=>W.cell? ⟨Eb,0,none⟩=some (.pointer (some ⟨E1,0,none⟩))/\W.cell? ⟨w.heap.size+1,0,none⟩=some (.int .i64 (p:Nat))) (fun W=>W.cell? ⟨w.heap.size+2,0,none⟩=some (.slice av T.length cv)) zco (by decide+kernel) (by rintro ⟨_,_,hno⟩;exact hno) ?_
    clear x4 y4 x7' xl' HW' H7' HKx hOi' hOj' H6'
    generalize Y.drew=Z at *
    refine zc3 (v:=?v0) 0 rfl (by kernel_rfl) (by kernel_rfl) (by kernel_rfl) (by kernel_rfl) (by kernel_rfl) (by kernel_rfl) (fun _ _ _ h=>h) (Or.inl ⟨by rfl,?hy0⟩) ⟨fun _=>hT1,fun _=>hT2⟩ ?_
    case hy0=>(rintro w z5;go_simp;with_reducible rfl)
    refine U1 (v:=?v1) 1 rfl (by kernel_rfl) (fun _ _ _ h=>h) (Or.inl ⟨by rfl,?hy1⟩) ⟨fun _=>hT1,fun _=>hT2⟩ ?_
    case hy1=>(rintro w ⟨⟨z1,z2⟩,z5⟩;go_simp;with_reducible rfl)
    refine U0 (v:=?v2) 2 rfl (by kernel_rfl) (fun _ _ _ h=>h) (Or.inl ⟨by rfl,?hy2⟩) ⟨fun _=>hT1,fun _=>hT2⟩ ?_
    case hy2=>(rintro w _;go_simp;with_reducible rfl)
    refine U0 (v:=?v3) 3 rfl (by kernel_rfl) (fun _ _ _ h=>h) (Or.inl ⟨by rfl,?hy3⟩) ⟨fun _=>hT1,fun _=>hT2⟩ ?_
    case hy3=>(rintro w _;go_simp;with_reducible rfl)
    refine U0 (v:=?v4) 4 rfl (by kernel_rfl) (fun _ _ _ h=>h) (Or.inl ⟨by rfl,?hy4⟩) ⟨fun _=>hT1,fun _=>hT2⟩ ?_
    case hy4=>(rintro w _;go_simp;with_reducible rfl)
    refine U1 (v:=?v5) 5 rfl (by kernel_rfl) (fun _ _ _ h=>h) (Or.inl ⟨by rfl,?hy5⟩) ⟨fun _=>hT1,fun _=>hT2⟩ ?_
    case hy5=>(rintro w ⟨⟨z1,z2⟩,z5⟩;go_simp;with_reducible rfl)
    refine za1 6 (by kernel_rfl) rfl (fun K hK=>?_)
    go_simp
    refine btrade_any E1 E2 o1 o2 _ _ _ _ n p _ _ hOi2 hOj2 hEne hn1 hn2 hb1 hb2' ?_
    intro Z1 k1 k2 k3
    have hM1:=HTr.o n Z Z1 HW2.o hne hil hjl k1 k2 k3
    have hK1:KeepsFrom w.heap.size Z Z1:=⟨k3.size,fun g ob hg hgo _=>(k3.blk g (gsi.1 hgo).1 (by rintro (e|e)<;>omega)).trans hgo⟩
    have hE61:Z1.heap[Eb]?=some (.cells #[.pointer (some ⟨E1,0,none⟩)] 106 (0,0)):=(k3.blk Eb (gsi.1 H62.o).1 (by rintro (e|e)<;>omega)).trans H62.o
    have hs1':w.heap.size+4<=Z1.heap.size:=by have:=hM1.vl.lt;omega
    clear hT1 hT2 hOi2 hOj2 k1 k2 k3 HW2 HTr
    rw[hvv] at hM1
    have hT2':=hM1.tv.var.cell
    obtain ⟨t,htd⟩: ∃t,tdOf o1 o2 n p=t:=⟨_,rfl⟩
    rw[htd] at HC'
    rw[htd]
    unfold tdv
    refine hK.o _ _ ⟨(fun h=>absurd h (by decide)),fun _=>hT2'⟩ ?_
    clear hK K
    refine za1 7 (by kernel_rfl) rfl (fun K hK=>?_)
    go_simp
    refine hK.o _ _ ⟨(fun h=>absurd h (by decide)),fun _=>zaa (zac _ _) hT2'⟩ ?_
    clear hK K
    refine za1 8 (by kernel_rfl) rfl (fun K hK=>?_)
    refine zej (w.heap.size+4) 4 32 T.length _ _ _ hM1.tv.row hs1' Tryz.infoTrade rfl (by decide) rfl ?c2 ?c3 (by decide) _ _ 208 Tryz.underlying208 rfl rfl rfl rfl ?_
    case c2=>simp[Value.oneCell']
    case c3=>omega
    intro v5 X5 hG5
    obtain ⟨hM5,x5,y5⟩:=hM1.push (t:=t) hF hG5
    have hK5:KeepsFrom w.heap.size Z X5:=hK1.trans ((KeepsOthers.of_grownBy hG5.grown fun j ob e hj=>zes hM1.tv.row e hj).from _)
    have hE65:X5.heap[Eb]?=some (.cells #[.pointer (some ⟨E1,0,none⟩)] 106 (0,0)):=(hG5.grown.block Eb (gsi.1 hE61).1 (fun e=>hM1.tv.notAt hE61 e.symm)).trans hE61
    obtain ⟨av5,cv5,rfl⟩:=zae hG5.own
    refine hK.o _ _ ⟨(fun h=>absurd h (by decide)),fun _=>x5⟩ ?_
    clear hK K hG5 hM1 hT2'
    refine za1 9 (by kernel_rfl) rfl (fun K hK=>?_)
    go_simp
    refine hK.o _ _ ⟨(fun h=>absurd h (by decide)),(fun h=>absurd h (by decide))⟩ ?_
    clear hK K
    refine zch (by kernel_rfl) ?_
    have hM6:=hM5.less (left':=left-n) hF
    have hK6:KeepsFrom w.heap.size Z (X5.setCell ⟨w.heap.size+2,0,none⟩ (.slice av5 (T.length+1) cv5)):=hK5.trans ((KeepsOthers.setCell _ _ _).from _)
    have hE66:(X5.setCell ⟨w.heap.size+2,0,none⟩ (.slice av5 (T.length+1) cv5)).heap[Eb]?=some (.cells #[.pointer (some ⟨E1,0,none⟩)] 106 (0,0)):=(bhs _ _ _ _ (show Eb≠w.heap.size+2 by omega)).trans hE65
    have xl6:=hM5.vl.cell
    have yl6:=hM5.vl.free
    clear x5 y5 hM5 hK5 hE65 hK1 hE61
    generalize X5.setCell ⟨w.heap.size+2,0,none⟩ (.slice av5 (T.length+1) cv5)=X6 at *
    have HM6:Hid _:=hM6
    have HK6:Hid _:=hK6
    have HE66:Hid _:=hE66
    clear hM6 hK6 hE66
    have hsub:IntKind.i64.wrap ((left:Int)-(n:Int))=((left-n:Nat):Int):=by rw[zjw _ (by omega) (by omega)];omega
    have e3:(left:Int)-(n:Int)=((left-n:Nat):Int):=by omega
    obtain ⟨d,hd⟩: ∃d,left-n=d:=⟨_,rfl⟩
    rw[hd] at HM6 HC' HS' hsub e3
    have hd9:d<=1000000000:=by omega
    clear hd hn hn3
    gi_wp2
    have hKe:KeepsFrom w.heap.size X (X6.setCell ⟨w.heap.size+3,0,none⟩ (.int .i64 (d:Nat))):=(HKy.o.trans HK6.o).trans ((KeepsOthers.setCell _ _ _).from _)
    have hKw:KeepsFrom w.heap.size W (X6.setCell ⟨w.heap.size+3,0,none⟩ (.int .i64 (d:Nat))):=(H72.o.trans HK6.o).trans ((KeepsOthers.setCell _ _ _).from _)
    have hEe:(X6.setCell ⟨w.heap.size+3,0,none⟩ (.int .i64 (d:Nat))).heap[Eb]?=some (.cells #[.pointer (some ⟨E1,0,none⟩)] 106 (0,0)):=(bhs _ _ _ _ (show Eb≠w.heap.size+3 by omega)).trans HE66.o
    refine⟨⟨hKe.size,fun x ob hx=>hKe.same x ob (by omega)⟩,?_⟩
    obtain ⟨q1,q2⟩:=HC'.o
    exact⟨_,d,T++[t],f',_,⟨q1,HM6.o,q2⟩,HS'.o,Hwt'.o,hEe,hKw⟩
 case hdone=>
  rintro D W hD ⟨mc,left,T,f,v,h1,h2,h3⟩ hK
  obtain rfl:left=0:=by
   by_cases h0:left=0
   .exact h0
   .exact h1.none (s:=1) (.inl rfl) (fun j hj=>(h3 j (by rw[List.take_length];exact hj)).resolve_right h0)
  have hd:=Hend.o D W mc T f v hD h1 h2 hK
  have HB:=zl (h2.bks)
  have y0:=h2.vb.cell
  clear h1 h2 h3 Hend
  gi_wp2
  refine callsIn_wide.2 (zds b mc.phase mc.all _ _ HB.o ?_)
  intro v' w' g1 g2 g3
  obtain ⟨x6,hK6,hfin⟩:=hd v' w' g1 g2 g3
  clear hd g1 g2 g3
  gi_wp2
  refine⟨by simp,.inl ⟨_,_,rfl,run_takeDeferred hK6,?_⟩⟩
  refine⟨_,?_,hfin⟩
  simp[results,Tryz.f167,go_sem]
 case hstop=>
  rintro D c W hD ⟨rfl,mc,T,f,v,h1,h2⟩ hK
  have hd:=Hend.o D W mc T f v hD h1 h2 hK
  have HB:=zl (h2.bks)
  have y0:=h2.vb.cell
  clear h1 h2 Hend
  gi_wp2
  refine callsIn_wide.2 (zds b mc.phase mc.all _ _ HB.o ?_)
  intro v' w' g1 g2 g3
  obtain ⟨x6,hK6,hfin⟩:=hd v' w' g1 g2 g3
  clear hd g1 g2 g3
  gi_wp2
  refine⟨by simp,.inl ⟨_,_,rfl,run_takeDeferred hK6,?_⟩⟩
  refine⟨_,?_,hfin⟩
  simp[results,Tryz.f167,go_sem]
end
section
open Go.RowKit Go.Shelf
theorem ziv (b:Bk)(ph:Nat)(l:List Od)(w:World)(R:EW)(h:BKs w b ph l)(hR: ∀w',Below w.heap.size w w'->R (.returned (.int .i64 ((b.q 1).length+(b.q 2).length:Nat))) w'):
  Calls Tryz.prog 160 #[.pointer (some ⟨b.K,0,none⟩)] w R:=by
 have HR:=zl hR
 have n1:=h.cnt 1 (.inl rfl)
 have n2:=h.cnt 2 (.inr rfl)
 have c1:=h.side 1 (.inl rfl)
 have c2:=h.side 2 (.inr rfl)
 obtain ⟨a1,cap1,e1⟩:=zae (h.row 1 (.inl rfl))
 obtain ⟨a2,cap2,e2⟩:=zae (h.row 2 (.inr rfl))
 rw[e1] at c1
 rw[e2] at c2
 clear hR h e1 e2
 generalize (b.q 1).length=m1 at *
 generalize (b.q 2).length=m2 at *
 go_enter Tryz.func160,Tryz.ntmps160
 go_wp2_with fail
 go_quiet (fail)
 go_wp2_with fail
 all_goals
  refine zci (HR.o _ (below_drewN br _)) ?_
  first|rfl|(congr 1;rw[zjw _ (by omega) (by omega)];rfl)|(congr 1)
def zjg (l:List Od) (q:List Nat):Nat:=(q.map fun i=>(nth l i).rest).sum
theorem qrest_snoc (l:List Od)(q:List Nat)(k:Nat)(hk:k<q.length):zjg l (q.take (k+1))=zjg l (q.take k)+(nth l (qat q k)).rest:=by
 rw[zag q k (qat q k) (zfa q k hk)]
 unfold zjg
 simp
theorem qrest_le (l:List Od)(q:List Nat)(k:Nat):zjg l (q.take k)<=zjg l q:=by
 unfold zjg
 induction q generalizing k with
 |nil=>simp
 |cons a q ih=>
  cases k with
  |zero=>simp
  |succ k=>
   have:=ih k
   simp only[List.take_succ_cons,List.map_cons,List.sum_cons]
   omega
structure QR (w:World) (b:Bk) (l:List Od) (q:List Nat) (v:Value):Prop where
 form: ∃a cap g,v= .slice a q.length cap/\(0<q.length->a=some ⟨g,0,none⟩)/\ ∀k,k<q.length->w.cell? ⟨g,k,none⟩=some (.pointer (some ⟨b.adr (qat q k),0,none⟩))
 len:q.length<=1048576
 id: ∀k,k<q.length->w.cell? ⟨b.adr (qat q k),0,none⟩=some (.int .i64 (nth l (qat q k)).id)
 rest: ∀k,k<q.length->w.cell? ⟨b.adr (qat q k),4,none⟩=some (.int .i64 (nth l (qat q k)).rest)
theorem BKs.qr {w:World}{b:Bk}{ph:Nat}{l:List Od}(h:BKs w b ph l)(s:Nat)(hs:isSd s):QR w b l (b.q s) (b.v s):=by
 obtain ⟨a,cap,g,hv,hN,ha,hc⟩:=h.rowOf s hs
 exact⟨⟨a,cap,g,hv,fun h=>(ha h).1,hc⟩,hN,fun k hk=>(h.ord s hs _ (zbk _ k hk)).c.c0,fun k hk=>(h.ord s hs _ (zbk _ k hk)).c.c4⟩
theorem ziu (b:Bk)(ph:Nat)(l:List Od)(s:Nat)(hs:isSd s)(w:World)(R:EW)(h:BKs w b ph l)(hq:Qd l s (b.q s))(hsum:zba l s<=1000000000)(hR:R (.returned (.int .i64 (zba l s:Nat))) w):
  Calls Tryz.prog 161 #[.pointer (some ⟨b.K,0,none⟩),.int .i64 (s:Nat)] w R:=by
 have ht:zjg l (b.q s)=zba l s:=hq.total
 rw[←ht] at hR hsum
 have cq:=h.side s hs
 have hQ:=h.qr s hs
 clear h hq ht
 generalize b.q s=q at *
 generalize b.v s=v at *
 have HR:Hid (R (.returned (.int .i64 (zjg l q:Nat))) w):=hR
 obtain ⟨a,cap,g,rfl,ha,hc⟩:=hQ.form
 have HA:=zl ha
 have HC:=zl hc
 have HO:=zl (hQ.rest)
 have HU:Hid (∀k,zjg l (q.take k)<=1000000000):=fun k=>llt (qrest_le l q k) hsum
 have hN:=hQ.len
 clear hR hc ha hQ hsum
 rcases hs with rfl|rfl
 all_goals
  go_enter Tryz.func161,Tryz.ntmps161
  go_wp2_with fail
  go_loop [5,7,15] (fun sm _ i=> ∃k:Nat,k<=q.length/\i= .int .i64 k/\sm= .int .i64 ((zjg l (q.take k):Nat):Int)) (fun _ _ i=>q.length-(intOf i).toNat)
  case atStart=>exact⟨0,Nat.zero_le _,rfl,by simp[zjg]⟩
  case round=>
   obtain ⟨k,hk,rfl,rfl⟩:=hrel
   by_cases hlt:k<q.length
   .obtain rfl:=HA.o (by omega)
    have c1:=HC.o k hlt
    have c4:=HO.o k hlt
    have u1:=HU.o k
    have u2:=HU.o (k+1)
    have hn:=qrest_snoc l q k hlt
    generalize nth l (qat q k)=o at *
    generalize b.adr (qat q k)=E at *
    have Hn:Hid _:=hn
    rw[hn] at u2
    clear hn
    generalize zjg l (q.take k)=t at *
    go_wp2_with fail
    go_round
    case rel=>exact⟨k+1,by omega,by go_num,by rw[Hn.o];first|rfl|(congr 1)⟩
    case measure=>simp[intOf];omega
   .obtain rfl:k=q.length:=by omega
    go_wp2_with fail
    exact HR.o
theorem bFind_any (b:Bk)(ph:Nat)(l:List Od)(id:Nat)(w:World)(R:EW)(h:BKs w b ph l)
  (hR1:(∀s,isSd s-> ∀k,k<(b.q s).length->(nth l (qat (b.q s) k)).id≠id)->R (.returned (.pointer none)) w)
  (hR2: ∀s k,isSd s->k<(b.q s).length->(nth l (qat (b.q s) k)).id=id->R (.returned (.pointer (some ⟨b.adr (qat (b.q s) k),0,none⟩))) w):
  Calls Tryz.prog 120 #[.pointer (some ⟨b.K,0,none⟩),.int .i64 (id:Nat)] w R:=by
 have HR1:Hid ((∀k,k<(b.q 1).length->(nth l (qat (b.q 1) k)).id≠id)->(∀k,k<(b.q 2).length->(nth l (qat (b.q 2) k)).id≠id)->R (.returned (.pointer none)) w):=by
  intro g1 g2
  refine hR1 fun s hs=>?_
  rcases hs with rfl|rfl
  .exact g1
  .exact g2
 have HR21:Hid (∀k,k<(b.q 1).length->(nth l (qat (b.q 1) k)).id=id->R (.returned (.pointer (some ⟨b.adr (qat (b.q 1) k),0,none⟩))) w):=fun k=>hR2 1 k (.inl rfl)
 have HR22:Hid (∀k,k<(b.q 2).length->(nth l (qat (b.q 2) k)).id=id->R (.returned (.pointer (some ⟨b.adr (qat (b.q 2) k),0,none⟩))) w):=fun k=>hR2 2 k (.inr rfl)
 have c0:=h.cells 0 _ rfl
 have c1:=h.cells 1 _ rfl
 have c2:=h.cells 2 _ rfl
 have Q1:=h.qr 1 (.inl rfl)
 have Q2:=h.qr 2 (.inr rfl)
 clear hR1 hR2 h
 generalize b.q 1=q1 at *
 generalize b.q 2=q2 at *
 generalize b.v 1=v1 at *
 generalize b.v 2=v2 at *
 obtain ⟨a1,cap1,g1,rfl,ha1,hc1⟩:=Q1.form
 obtain ⟨a2,cap2,g2,rfl,ha2,hc2⟩:=Q2.form
 have HA1:=zl ha1
 have HA2:=zl ha2
 have HC1:=zl hc1
 have HC2:=zl hc2
 have HO1:Hid (∀k,k<q1.length->w.cell? ⟨b.adr (qat q1 k),0,none⟩=some (.int .i64 (nth l (qat q1 k)).id)):=Q1.id
 have HO2:Hid (∀k,k<q2.length->w.cell? ⟨b.adr (qat q2 k),0,none⟩=some (.int .i64 (nth l (qat q2 k)).id)):=Q2.id
 have n1:=Q1.len
 have n2:=Q2.len
 clear Q1 Q2 ha1 ha2 hc1 hc2
 have i0:=queues0
 have i1:=queues1
 have i2:=queues2
 go_enter Tryz.func120,Tryz.ntmps120
 go_wp2_with fail
 refine wp_loop_rounds 4 ?_
 rw[rounds_succ]
 go_wp2_with fail
 refine wp_loop_rounds 1 ?_
 rw[rounds_succ]
 go_wp2_with fail
 rw[rounds_succ]
 go_wp2_with fail
 go_loop [8,18] (fun _ i=> ∃k:Nat,k<=q1.length/\i= .int .i64 k/\ ∀j,j<k->(nth l (qat q1 j)).id≠id) (fun _ i=>q1.length-(intOf i).toNat)
 case atStart=>exact⟨0,Nat.zero_le _,rfl,fun j hj=>absurd hj (by omega)⟩
 case round=>
  obtain ⟨k,hk,rfl,hall⟩:=hrel
  have Hall:=zl hall
  clear hall
  by_cases hlt:k<q1.length
  .obtain rfl:=HA1.o (by omega)
   have d1:=HC1.o k hlt
   have d0:=HO1.o k hlt
   have hf:=HR21.o k hlt
   have Hs:Hid ((nth l (qat q1 k)).id≠id-> ∀j,j<k+1->(nth l (qat q1 j)).id≠id):=by
    intro h1 j hj
    by_cases e:j=k
    .rw[e];exact h1
    .exact Hall.o j (by omega)
   generalize nth l (qat q1 k)=o at *
   generalize b.adr (qat q1 k)=E at *
   by_cases he:o.id=id
   .have f0:((o.id:Int)==(id:Int))=true:=by simp[he]
    have Hf:Hid _:=hf he
    clear hf
    go_wp2_with fail
    exact Hf.o
   .have f0:((o.id:Int)==(id:Int))=false:=by simp;omega
    have He:=zl he
    clear hf he
    go_wp2_with fail
    go_round
    case rel=>exact⟨k+1,by omega,by go_num,Hs.o He.o⟩
    case measure=>simp[intOf];omega
  .obtain rfl:k=q1.length:=by omega
   go_wp2_with fail
   rw[rounds_succ]
   go_wp2_with fail
   go_loop [8,18] (fun _ i=> ∃k:Nat,k<=q2.length/\i= .int .i64 k/\ ∀j,j<k->(nth l (qat q2 j)).id≠id) (fun _ i=>q2.length-(intOf i).toNat)
   case atStart=>exact⟨0,Nat.zero_le _,rfl,fun j hj=>absurd hj (by omega)⟩
   case round=>
    obtain ⟨k,hk,rfl,hall2⟩:=hrel
    have Hall2:=zl hall2
    clear hall2
    by_cases hlt2:k<q2.length
    .obtain rfl:=HA2.o (by omega)
     have d1:=HC2.o k hlt2
     have d0:=HO2.o k hlt2
     have hf:=HR22.o k hlt2
     have Hs:Hid ((nth l (qat q2 k)).id≠id-> ∀j,j<k+1->(nth l (qat q2 j)).id≠id):=by
      intro h1 j hj
      by_cases e:j=k
      .rw[e];exact h1
      .exact Hall2.o j (by omega)
     generalize nth l (qat q2 k)=o at *
     generalize b.adr (qat q2 k)=E at *
     by_cases he:o.id=id
     .have f0:((o.id:Int)==(id:Int))=true:=by simp[he]
      have Hf:Hid _:=hf he
      clear hf
      go_wp2_with fail
      exact Hf.o
     .have f0:((o.id:Int)==(id:Int))=false:=by simp;omega
      have He:=zl he
      clear hf he
      go_wp2_with fail
      go_round
      case rel=>exact⟨k+1,by omega,by go_num,Hs.o He.o⟩
      case measure=>simp[intOf];omega
    .obtain rfl:k=q2.length:=by omega
     have hfin:=zl (HR1.o Hall.o Hall2.o)
     go_wp2_with fail
     rw[rounds_succ]
     go_wp2_with fail
     exact hfin.o
end
