import Derived.Test.YtmiiejinahnpkaaGreatDoorXHiIb
set_option maxRecDepth 100000
set_option maxHeartbeats 4000000
namespace Go.Proofs.YtmiiejinahnpkaaGreatDoor
section
open Go.RowKit Go.Shelf
attribute [local go_sem] Oper.semAt_some
structure StH (P:Program) (ops:Array Oper) (w:World) (Q:Act->Prop) (l:List Oper) (a:Act):Prop where
 out:wpStill P ops w Q l a
variable {a:Act} {Q:Act->Prop} {ops:Array Oper} {P:Program} {w:World}
theorem StH.step {o:Oper}{rest:List Oper}(h: ∀K:Act->Prop,(∀a,StH P ops w Q rest a->K a)->if Region.wanted o (yielded ops a.tmps) then o.still P a w K else K (a.put o.dst undef)):StH P ops w Q (o::rest) a:=
 ⟨h _ (fun _ h=>h.out)⟩
theorem StH.nil (h:Q a):StH P ops w Q [] a:=⟨h⟩
theorem zh9 {Q:Exit->Act->World->Prop}{id:Nat}{l:List Oper}{lp m:Nat}(hm:P.follows .mixedOrders=true)(hnd:zfw l.toArray=true)(hno: ¬LetsOut Q)(hB:Region.lexB .any l.toArray=true)
  (h:StH P l.toArray w.drew (fun a'=>Q .normal a' w.drew) l a):(Code.region id l.toArray true).wpIn (Fence.wide.inRound lp) m P Q a w:=round_still hm hnd hno hB h.out
def chainOk (md:Region.Mode) (ops:Array Oper):Nat->List Nat->Bool
 |_,[]=>true
 |i,d::ds=>Region.waitsFor md ops d i&&chainOk md ops d ds
variable {L:Array Bool} {c:Nat}
theorem not_ready_of {md:Region.Mode}{i:Nat}(hw:Region.waitsFor md ops c i=true)(h0:L.getD i true=false):c∉Region.ready md ops L:=by
 intro hc
 obtain ⟨_,oc,hoc,hall⟩:=mem_ready.1 hc
 obtain ⟨oc',hoc',d,hd,hb,he⟩:=Region.waitsFor_spec hw
 rw[hoc] at hoc'
 cases hoc'
 have h1:=hall d hd hb
 rw[he] at h1
 by_cases hlt:i<L.size
 .simp[hlt] at h0 h1
  rw[h0] at h1
  cases h1
 .simp[Array.getElem?_eq_none (Nat.le_of_not_lt hlt)] at h1
theorem chain_unready {md:Region.Mode}{ch:List Nat}: ∀{i:Nat},chainOk md ops i ch=true->L.getD i true=false->(∀d∈ch,L.getD d true=false)-> ∀d∈ch,d∉Region.ready md ops L:=by
 induction ch with
 |nil=>intro i _ _ _ d hd;cases hd
 |cons x ch ih=>
  intro i h hi hL d hd
  simp only[chainOk,Bool.and_eq_true] at h
  simp only[List.mem_cons] at hd
  rcases hd with rfl|hd
  .exact not_ready_of h.1 hi
  .exact ih h.2 (hL x (by simp)) (fun y hy=>hL y (by simp[hy])) d hd
theorem zbt {Q:Exit->Act->World->Prop}{md:Region.Mode}{e:Nat}{T1 T2:World->Prop}{oi:Oper}{v:Value}{n:Nat}(i:Nat)(ch:List Nat)(hi:ops[i]?=some oi)(hs:Region.noSelect ops=true)(hf:Region.free md ops L i=true)
  (hr:(Region.ready md ops L).contains i=true)(hne:(i !=c&&i !=e)=true)(hc:(chainOk md ops i ch&&(ch.contains c&&ch.all fun d=>L.getD d true==false))=true)(he:Region.waitsFor md ops e i=true)(hL:L.getD e false=false)
  (hQ: ∀c a w,Q (.panic c) (a.put oi.dst v) w->Q (.panic c) a w)(hy:YieldsIf P ops (fun w=>T1 w/\T2 w) oi v a)(hS:Sc c e T1 T2 L w)
  (h:anyU P md ops Q (Sc c e T1 T2) n (L.setIfInBounds i true) (a.put oi.dst v) w):anyU P md ops Q (Sc c e T1 T2) (n+1) L a w:=by
 simp only[Bool.and_eq_true,bne_iff_ne,ne_eq,List.all_eq_true,beq_iff_eq,List.contains_eq_mem,decide_eq_true_eq] at hne hc
 have hcf: ∀L:Array Bool,(∀d∈ch,L.getD d true=false)->L.getD c false=false:=by
  intro L hL
  have h1:=hL c hc.2.1
  by_cases hlt:c<L.size
  .simpa [hlt] using h1
  .simp[Array.getElem?_eq_none (Nat.le_of_not_lt hlt)] at h1
 refine U_first (T:=fun w=>T1 w/\T2 w) (G:=fun L=>(∀d∈ch,L.getD d true=false)/\L.getD e false=false) hi (Region.noSelect_spec hs) hQ (fun L _ hg hS=>⟨hS.1 (hcf L hg.1),hS.2 hg.2⟩) (fun L j hg hir hjr _=>?_) (Sc_put hne.1 hne.2) n L a w (Region.free_spec hi hf) (by simpa using hr) ⟨hc.2.2,hL⟩ hy hS h
 have he':j≠e:=fun h=>zcu he hir (by rw[←h];exact hjr)
 refine⟨fun d hd=>?_,(zdy he').trans hg.2⟩
 have hjd:j≠d:=fun h=>chain_unready hc.1 (mem_ready.1 hir).1 hg.1 d hd (by rw[←h];exact hjr)
 rw[getD_set_ne true hjd]
 exact hg.1 d hd
theorem BKs.rowCells {b:Bk}{ph:Nat}{l:List Od}(h:BKs w b ph l)(s:Nat)(hs:isSd s)(g:Nat)(hg:0<(b.q s).length->(b.v s).ownBlock=some g)(k:Nat)(hk:k<(b.q s).length):w.cell? ⟨g,k,none⟩=some (.pointer (some ⟨b.adr (qat (b.q s) k),0,none⟩)):=by
 obtain ⟨a,cap,g',_,_,ha,hc⟩:=h.rowOf s hs
 have h1:=hg (by omega)
 rw[(ha (by omega)).2] at h1
 cases h1
 exact hc k hk
theorem bMeet_any (b:Bk)(m:Mk)(k0:Nat)(w:World)(R:EW)(h:BKs w b m.phase m.all)(hok:zdm m.all)(hq: ∀s,isSd s->Qd m.all s (b.q s))(hk0:k0∈b.q (nth m.all k0).side)(h0:isSd (nth m.all k0).side)(hrest: ∀j,(nth m.all j).rest<=4294967295)
  (hR: ∀v' tv T w',BKs w' (b.dropped v' (fun j=>decide ((nth (zbd (nth m.all k0) k0 (nth m.all k0).rest m).all j).rest=0))) m.phase (zbd (nth m.all k0) k0 (nth m.all k0).rest m).all->(∀s,isSd s->(v' s).ownBlock=(b.v s).ownBlock)->Tch b.F w w'->
   w'.ownsRow w.heap.size 233 4 tv T.length (tdcs T)->outs (zbd (nth m.all k0) k0 (nth m.all k0).rest m)=outs m++T.map tdev->T.length<=1048576->
   OB w' (b.adr k0) (nth (zbd (nth m.all k0) k0 (nth m.all k0).rest m).all k0) (wt m.phase (nth (zbd (nth m.all k0) k0 (nth m.all k0).rest m).all k0)) k0->R (.returned tv) w'):
  Calls Tryz.prog 168 #[.pointer (some ⟨b.K,0,none⟩),.pointer (some ⟨b.adr k0,0,none⟩)] w R:=by
 refine(callsIn_wide (n:=2)).1 ?_
 refine callsIn_of_wp_marks Tryz.func168 rfl trivial ?_ rfl
 simp only[Tryz.ntmps168,List.size_toArray,List.length_cons,List.length_nil,Nat.reduceAdd,Nat.reduceSub,Array.replicate_succ,Array.replicate_zero,List.push_toArray,List.append_toArray,List.nil_append,List.cons_append]
 have hf1:Fence.wide.fn 203:=trivial
 have hf2:Fence.wide.fn 202:=trivial
 have hO:=h.ord _ h0 k0 hk0
 have hEk:b.adr k0<w.heap.size:=hO.lt
 have hbx:=zac w (.cells #[.pointer (some ⟨b.adr k0,0,none⟩)] 106)
 have c1:=((hO.ext hbx).ext (zac _ (.cells #[.slice none 0 0] 208))).c.c1
 gi_wp2
 obtain ⟨W1,hW1⟩: ∃W1,(w.alloc (.cells #[.pointer (some ⟨b.adr k0,0,none⟩)] 106)).alloc (.cells #[.slice none 0 0] 208)=W1:=⟨_,rfl⟩
 have hs1:W1.heap.size=w.heap.size+2:=by rw[←hW1];simp
 have hB1:Below w.heap.size w W1:=by rw[←hW1];exact((Below.refl _ w).alloc nr _).alloc (by simp) _
 have vo1:Vb W1 w.heap.size (.pointer (some ⟨b.adr k0,0,none⟩)):=by rw[←hW1];exact(Vb.new w _ _).alloc _
 have vt1:Vb W1 (w.heap.size+1) (.slice none 0 0):=by rw[←hW1];have:=Vb.new (w.alloc (.cells #[.pointer (some ⟨b.adr k0,0,none⟩)] 106)) (.slice none 0 0) 208;simpa using this
 rw[hW1]
 clear c1 hbx
 refine callsIn_wide.2 (facing_any b.K _ h0 _ _ ?_)
 intro W2 hI2 hb2
 rw[hs1] at hI2
 unfold itv
 rw[hs1]
 gi_wp2
 have hF: ∀g,b.F g->g<w.heap.size:=fun g hg=>h.lt hg
 have hB2:Below w.heap.size w W2:=zad hB1 hb2
 have hs2:w.heap.size+2<=W2.heap.size:=by have:=hb2.size;omega
 have hk0l:k0<m.all.length:=((hq _ h0).inn k0 hk0).1
 obtain ⟨s,hsd⟩:=xq (3-(nth m.all k0).side)
 have hs:isSd s:=by rcases h0 with e|e<;>rw[e] at hsd<;>simp[isSd,hsd]
 have hm0:MP b m k0 (nth m.all k0).rest m [] (nth m.all k0).rest:=⟨rfl,nr,by simp,rfl,rfl,fun j=>⟨rfl,rfl,rfl,nr⟩,hok,hq⟩
 have hw0:MW b w k0 w.heap.size (w.heap.size+1) m [] (.slice none 0 0) W2:=⟨h.ext hB2,vo1.ext hb2,⟨vt1.ext hb2,World.ownsRow_nil _ _ _ _,by simp[Value.ownBlock]⟩,Tch.of hB2,by simp[Value.ownBlock]⟩
 rw[←hsd] at hI2
 have Hsd:=zl hsd
 clear hsd
 have hTF: ∀g,b.T g->b.F g:=by
  rintro g (e|e|e)
  .exact .inl e
  .exact .inr (.inr ⟨1,.inl rfl,.inl e⟩)
  .exact .inr (.inr ⟨2,.inr rfl,.inl e⟩)
 have Hend:Hid (∀(D:Nat) (W:World) (mc:Mk) (T:List Td) (f:Nat) (v:Value),W2.heap.size<=D->MP b m k0 (nth m.all k0).rest mc T f->MW b w k0 w.heap.size (w.heap.size+1) mc T v W->zbd (nth m.all k0) k0 (nth m.all k0).rest m=mc->T.length<=1048576->W.heap[D]?=some (.deferred (some []))->
   ∀v' w',BKs w' (b.dropped v' (fun j=>decide ((nth mc.all j).rest=0))) mc.phase mc.all->(∀s,isSd s->(v' s).ownBlock=(b.v s).ownBlock)->Tch b.T W w'->w'.cell? ⟨w.heap.size+1,0,none⟩=some v/\w'.heap[D]?=some (.deferred (some []))/\R (.returned v) (w'.putObj D (.deferred none))):=by
  intro D W mc T f v hD h1 h2 h3 h4 hK v' w' g1 g2 g3
  have hlt: ∀g,b.T g->g<w.heap.size:=fun g hg=>hF g (hTF g hg)
  have t1:=h2.tv.same g3.size (g3.blk _ h2.tv.var.lt (fun e=>by have:=hlt _ e;omega)) (fun g hg=>g3.blk g (h2.tv.row.lt g hg).2 (fun e=>by have:=hlt _ e;have:=(h2.tv.row.lt g hg).1;omega))
  have hK6:w'.heap[D]?=some (.deferred (some [])):=(g3.blk D (gsi.1 hK).1 (fun e=>by have:=hlt _ e;omega)).trans hK
  refine⟨t1.var.cell,hK6,?_⟩
  have hbf: ∀g,(b.dropped v' (fun j=>decide ((nth mc.all j).rest=0))).F g->b.F g:=by
   rintro g (e|e|⟨s,hs,e|⟨i,hi,e⟩⟩)
   .exact .inl e
   .exact .inr (.inl e)
   .exact .inr (.inr ⟨s,hs,.inl ((g2 s hs).symm.trans e)⟩)
   .exact .inr (.inr ⟨s,hs,.inr ⟨i,(List.mem_filter.1 hi).1,e⟩⟩)
  have hout:=h1.out
  have hph:=h1.ph
  have hOz:OB w' (b.adr k0) (nth mc.all k0) (wt mc.phase (nth mc.all k0)) k0:=(g3.blk _ (h2.bks.ord _ h0 k0 hk0).lt (h2.bks.ordT h0 hk0)).trans (h2.bks.ord _ h0 k0 hk0)
  subst h3
  refine hR v' v T _ ?_ g2 ?_ ?_ hout h4 ?_
  .rw[←hph]
   exact g1.keep fun g hg=>World.putObj_heap_other (by have:=hF g (hbf g hg);omega)
  .exact(h2.tch.trans (g3.widen hTF)).andThen rfl rfl rfl (by simp) (fun g hg _=>World.putObj_heap_other (by omega))
  .exact zgm t1.row (grownBy_putObj' w' D (.deferred none)) (fun r e=>by cases e;exact⟨_,hK6,rfl⟩)
  .rw[←hph]
   exact(World.putObj_heap_other (by omega)).trans hOz
 obtain ⟨a1,cap1,g1,hv1,hN1,ha1,hc1⟩:=h.rowOf s hs
 refine zc7 (F:=Fence.wide) (n:=2) rfl (by decide) (gf:=218) (lb:= #[.pointer (some ⟨w.heap.size+2,0,none⟩),.pointer (some ⟨w.heap.size+2+1,0,none⟩)]) rfl trivial zek
  (zgk (2-1) _ _ b.K s g1 (b.q s).length cap1 a1 (fun k=>b.adr (qat (b.q s) k)) (fun h=>(ha1 h).1) hs (by omega)) rfl
  (fun W hg=>?g) (fun k W=> ∃mc T f v,MP b m k0 (nth m.all k0).rest mc T f/\MW b w k0 w.heap.size (w.heap.size+1) mc T v W/\MSeen b s k0 k mc/\T.length<=k)
  (fun c W=>c= .exit 0/\ ∃mc T f v,MP b m k0 (nth m.all k0).rest mc T f/\MW b w k0 w.heap.size (w.heap.size+1) mc T v W/\zbd (nth m.all k0) k0 (nth m.all k0).rest m=mc/\T.length<=1048576)
  ?hJ ?hJx ⟨m,[],_,_,hm0,hw0,fun j hj=>by simp at hj,nr⟩ ?hPhi ?hskip
  (fun k a' W=>PrI (fun k=>b.adr (qat (b.q s) k)) k W/\a'={tmps:= #[.pointer (some ⟨b.K,0,none⟩),.pointer (some ⟨b.adr k0,0,none⟩),undef,.pointer (some ⟨w.heap.size,0,none⟩),.slice none 0 0,.pointer (some ⟨w.heap.size+1,0,none⟩),.pointer (some ⟨b.adr (qat (b.q s) k),0,none⟩),.pointer (some ⟨b.K,0,none⟩),.pointer (some ⟨b.adr k0,0,none⟩),.pointer (some ⟨b.adr k0,0,none⟩),.pointer (some ⟨b.adr k0,0,none⟩),.pointer (some ⟨b.adr k0,1,none⟩),.int .i64 ((nth m.all k0).side:Nat),itv (w.heap.size+2) (w.heap.size+2+1),.pointer (some ⟨b.adr (qat (b.q s) k),0,none⟩),undef,undef,undef,undef,undef,undef,undef,undef,undef,undef,undef,undef,undef,undef,undef,undef,undef,undef,undef,undef,undef,undef,undef,undef,undef,undef,undef,undef,undef,undef,undef,undef,undef,undef,undef,undef,undef,undef,undef,undef,undef],defers:=[]})
  ?hAx ?hassign ?hbody ?hdone ?hstop
 case g=>
  have hb:Below W2.heap.size W2 W:=br.grown hg nr (fun j e=>by cases e)
  exact⟨zaa hb hI2.cb,zaa hb hI2.cs,by rw[←hv1];exact((h.ext hB2).ext hb).side s hs⟩
 case hJ=>
  rintro k X X' row ⟨mc,T,f,v,h1,h2,h3⟩ hg hr
  exact⟨mc,T,f,v,h1,h2.kept hF hg (fun r e=>⟨by have:=(hr r e).1;omega,(hr r e).2⟩),h3⟩
 case hJx=>
  rintro c _ X X' row ⟨hc,mc,T,f,v,h1,h2,h3⟩ hg hr
  exact⟨hc,mc,T,f,v,h1,h2.kept hF hg (fun r e=>⟨by have:=(hr r e).1;omega,(hr r e).2⟩),h3⟩
 case hPhi=>
  rintro k W ⟨mc,T,f,v,h1,h2,h3⟩
  exact h2.bks.prF s hs g1 (fun k hk=>h2.bks.rowCells s hs g1 (fun h=>(ha1 h).2) k hk) k
 case hskip=>
  rintro k W hk ⟨mc,T,f,v,h1,h2,h3,h4⟩ hin
  rw[h2.bks.prI s hs k hk] at hin
  refine⟨mc,T,f,v,h1,h2,fun j hj=>?_,by omega⟩
  rcases zcw (b.q s) k j hj hk with h5|rfl
  .exact h3 j h5
  .exact .inl (by simpa using hin)
 case hAx=>
  rintro k a' _ A A' row ⟨⟨p1,r,p2,p3⟩,p4⟩ hg hr
  exact⟨⟨cell_kept p1 hg (fun r e=>(hr r e).2),r,p2,cell_kept p3 hg (fun r e=>(hr r e).2)⟩,p4⟩
 case hassign=>
  rintro l' k W K hk hj hin hK
  gi_wp2
  exact hK _ _ (KeepsFrom.refl _ _) hj ⟨hin,rfl⟩
 case hbody=>
  rintro l' k a' W hk hl hr ⟨mc,T,f,v,h1,h2,h3,h4⟩ ⟨hin,rfl⟩
  have hbk:=(h2.bks.prI s hs k hk).1 hin
  have hjm:=zbk (b.q s) k hk
  have hOj:=h2.bks.ord s hs _ hjm
  have hOk:=h2.bks.ord _ h0 k0 hk0
  have hne:k0≠qat (b.q s) k:=by
   intro e
   have:=((hq s hs).inn _ hjm).2
   rw[←e] at this
   have:=Hsd.o
   rcases h0 with e0|e0<;>omega
  have hEne:b.adr k0≠b.adr (qat (b.q s) k):=fun e=>hne (h2.bks.adrOne hs hjm h0 hk0 e)
  have hE2:b.adr (qat (b.q s) k)<w.heap.size:=hF _ (.inr (.inr ⟨s,hs,.inr ⟨_,hjm,rfl⟩⟩))
  have HP:=zl h1
  have HW:=zl h2
  have hkl:k0<mc.all.length:=by rw[h1.len];exact hk0l
  have hjl:qat (b.q s) k<mc.all.length:=((h1.qd s hs).inn _ hjm).1
  have hb1:(nth mc.all k0).rest<=4294967295:=llt (h1.sh k0).2.2.2 (hrest _)
  have hb2':(nth mc.all (qat (b.q s) k)).rest<=4294967295:=llt (h1.sh _).2.2.2 (hrest _)
  have Hno:Hid ((nth mc.all k0).rest=0\/tkP (nth mc.all k0) (nth mc.all (qat (b.q s) k)).price=false->zbd (nth m.all k0) k0 (nth m.all k0).rest m=mc):=fun hx=>h1.stop hs Hsd.o hk0l hk h3 hbk hx
  have Hyes:Hid ((nth mc.all k0).rest≠0->tkP (nth mc.all k0) (nth mc.all (qat (b.q s) k)).price=true->_):=fun hx hy=>h1.step hs h0 Hsd.o hk0l hk h3 hx hbk hy
  have HT:Hid (∀(n p:Nat) (W W':World),BKs W b mc.phase mc.all->OB W' (b.adr k0) {nth mc.all k0 with rest:=(nth mc.all k0).rest-n} (wt mc.phase (nth mc.all k0)) k0->OB W' (b.adr (qat (b.q s) k)) {nth mc.all (qat (b.q s) k) with rest:=(nth mc.all (qat (b.q s) k)).rest-n} (wt mc.phase (nth mc.all (qat (b.q s) k))) (qat (b.q s) k)->
    Tch (fun g=>g=b.adr k0\/g=b.adr (qat (b.q s) k)) W W'->BKs W' b (zbn mc k0 (qat (b.q s) k) n p).phase (zbn mc k0 (qat (b.q s) k) n p).all):=fun n p W W' g1 g2 g3 g4=>g1.trade h0 hk0 hs hjm hne hkl hjl g2 g3 g4
  clear hTF Hend
  have hTF: ∀g,(g=b.adr k0\/g=b.adr (qat (b.q s) k))->b.F g:=by
   rintro g (rfl|rfl)
   .exact .inr (.inr ⟨_,h0,.inr ⟨_,hk0,rfl⟩⟩)
   .exact .inr (.inr ⟨s,hs,.inr ⟨_,hjm,rfl⟩⟩)
  have hkN:T.length<=1048576:=by omega
  clear h1 h2 h3 hin hne hkl hjl h hq hR hc1 ha1 hm0 hw0 hI2 vo1 vt1 hbk hO
  generalize qat (b.q s) k=j at *
  obtain ⟨o1,e1⟩: ∃o1,nth mc.all k0=o1:=⟨_,rfl⟩
  obtain ⟨o2,e2⟩: ∃o2,nth mc.all j=o2:=⟨_,rfl⟩
  rw[e1,e2] at Hno Hyes HT
  rw[e1] at hOk hb1
  rw[e2] at hOj hb2'
  obtain ⟨E1,hE1⟩: ∃E,b.adr k0=E:=⟨_,rfl⟩
  obtain ⟨E2,hE2e⟩: ∃E,b.adr j=E:=⟨_,rfl⟩
  rw[hE1] at hOk HT hEne hEk hTF
  rw[hE2e] at hOj HT hEne hE2 hTF
  have x0:=HW.o.vo.cell
  rw[hE1] at x0
  have x1:=hOk.c.c1
  have x3:=hOk.c.c3
  have x4:=hOk.c.c4
  have y3:=hOj.c.c3
  have y4:=hOj.c.c4
  rw[hE1,hE2e]
  unfold itv
  gi_wp2
  by_cases hr0:o1.rest=0
  .have f0:(o1.rest:Int)=0:=by omega
   refine zh9 zco (by decide+kernel) (by rintro ⟨_,_,hno⟩;exact hno) (by kernel_rfl) ?_
   have HW':Hid (MW b w k0 w.heap.size (w.heap.size+1) mc T v W.drew):=HW.o.ext br.drew
   have HK':Hid (KeepsOthers W W.drew):=KeepsOthers.drew _
   have x0':W.drew.cell? ⟨w.heap.size,0,none⟩=_:=x0
   have x4':W.drew.cell? ⟨E1,4,none⟩=_:=x4
   generalize W.drew=W' at *
   iterate 16 (refine StH.step (fun K hK=>?_);go_simp;refine hK _ ?_;clear hK K)
   refine StH.nil ?_
   gi_wp2
   exact⟨HK'.o.from _,rfl,mc,T,f,v,HP.o,HW'.o,Hno.o (.inl hr0),hkN⟩
  .have f0:((o1.rest:Int)==0)=false:=by simp;omega
   refine zh9 zco (by decide+kernel) (by rintro ⟨_,_,hno⟩;exact hno) (by kernel_rfl) ?_
   have HW':Hid (MW b w k0 w.heap.size (w.heap.size+1) mc T v W.drew):=HW.o.ext br.drew
   have HK':Hid (KeepsOthers W W.drew):=KeepsOthers.drew _
   have hOk':OB W.drew E1 o1 (wt mc.phase o1) k0:=hOk
   have hOj':OB W.drew E2 o2 (wt mc.phase o2) j:=hOj
   have x0':W.drew.cell? ⟨w.heap.size,0,none⟩=_:=x0
   clear x1 x3 x4 y3 y4 x0 hOk hOj HW
   generalize W.drew=W' at *
   have x1:=hOk'.c.c1
   have x3:=hOk'.c.c3
   have x4:=hOk'.c.c4
   have y3:=hOj'.c.c3
   have y4:=hOj'.c.c4
   iterate 13 (refine StH.step (fun K hK=>?_);go_simp;refine hK _ ?_;clear hK K)
   (refine StH.step (fun K hK=>?_);go_simp;refine⟨_,zis E1 o1 o2.price _ _ x1 x3 ⟨rfl,rfl⟩,hK _ ?_⟩;clear hK K)
   cases ht:tkP o1 o2.price with
   |false=>
    iterate 2 (refine StH.step (fun K hK=>?_);go_simp;refine hK _ ?_;clear hK K)
    refine StH.nil ?_
    gi_wp2
    exact⟨HK'.o.from _,rfl,mc,T,f,v,HP.o,HW'.o,Hno.o (.inr ht),hkN⟩
   |true=>
   iterate 2 (refine StH.step (fun K hK=>?_);go_simp;refine hK _ ?_;clear hK K)
   refine StH.nil ?_
   gi_wp2
   obtain ⟨mc',f',hmc',hP',hS'⟩:=Hyes.o hr0 ht
   obtain ⟨n,hn⟩: ∃n,min o1.rest o2.rest=n:=⟨_,rfl⟩
   rw[hn] at hmc' hP'
   have hnn:min (o1.rest:Int) (o2.rest:Int)=(n:Int):=by omega
   have hn1:n<=o1.rest:=by omega
   have hn2:n<=o2.rest:=by omega
   obtain ⟨p,hp⟩: ∃p,o2.price=p:=⟨_,rfl⟩
   rw[hp] at hmc' hP' y3
   have HW2:Hid (MW b w k0 w.heap.size (w.heap.size+1) mc T v W'.drew):=HW'.o.ext br.drew
   have HK2:Hid (KeepsOthers W W'.drew):=HK'.o.trans (KeepsOthers.drew _)
   have hOk2:OB W'.drew E1 o1 (wt mc.phase o1) k0:=hOk'
   have hOj2:OB W'.drew E2 o2 (wt mc.phase o2) j:=hOj'
   obtain ⟨av,cv,hvv⟩:=zae HW2.o.tv.row
   have hT1:W'.drew.cell? ⟨w.heap.size,0,none⟩=some (.pointer (some ⟨E1,0,none⟩))/\W'.drew.cell? ⟨E1,4,none⟩=some (.int .i64 (o1.rest:Nat))/\W'.drew.cell? ⟨E2,4,none⟩=some (.int .i64 (o2.rest:Nat))/\W'.drew.cell? ⟨E2,3,none⟩=some (.int .i64 (p:Nat)):=⟨x0',x4,y4,y3⟩
   have hT2:W'.drew.cell? ⟨w.heap.size+1,0,none⟩=some (.slice av T.length cv):=by rw[←hvv];exact HW2.o.tv.var.cell
   refine round_U 19 22 (fun W=>W.cell? ⟨w.heap.size,0,none⟩=some (.pointer (some ⟨E1,0,none⟩))/\W.cell? ⟨E1,4,none⟩=some (.int .i64 (o1.rest:Nat))/\W.cell? ⟨E2,4,none⟩=some (.int .i64 (o2.rest:Nat))/\W.cell? ⟨E2,3,none⟩=some (.int .i64 (p:Nat))) (fun W=>W.cell? ⟨w.heap.size+1,0,none⟩=some (.slice av T.length cv)) zco (by decide+kernel) (by rintro ⟨_,_,hno⟩;exact hno) ?_
   clear x1 x3 x4 y3 y4 x0' HW' HK' hOk' hOj' Hno Hyes
   generalize W'.drew=X at *
   refine zc3 (v:=?v0) 0 rfl (by kernel_rfl) (by kernel_rfl) (by kernel_rfl) (by kernel_rfl) (by kernel_rfl) (by kernel_rfl) (fun _ _ _ h=>h) (Or.inl ⟨by rfl,?hy0⟩) ⟨fun _=>hT1,fun _=>hT2⟩ ?_
   case hy0=>(rintro w z5;go_simp;with_reducible rfl)
   refine U1 (v:=?v1) 1 rfl (by kernel_rfl) (fun _ _ _ h=>h) (Or.inl ⟨by rfl,?hy1⟩) ⟨fun _=>hT1,fun _=>hT2⟩ ?_
   case hy1=>(rintro w ⟨⟨z1,z2,z3,z4⟩,z5⟩;go_simp;with_reducible rfl)
   refine U0 (v:=?v2) 2 rfl (by kernel_rfl) (fun _ _ _ h=>h) (Or.inl ⟨by rfl,?hy2⟩) ⟨fun _=>hT1,fun _=>hT2⟩ ?_
   case hy2=>(rintro w _;go_simp;with_reducible rfl)
   refine zbt (v:=?v3) 3 [4,5,6,7,13,19] rfl (by kernel_rfl) (by kernel_rfl) (by kernel_rfl) (by kernel_rfl) (by kernel_rfl) (by kernel_rfl) (by kernel_rfl) (fun _ _ _ h=>h) (Or.inl ⟨by rfl,?hy3⟩) ⟨fun _=>hT1,fun _=>hT2⟩ ?_
   case hy3=>(rintro w ⟨⟨z1,z2,z3,z4⟩,z5⟩;go_simp;with_reducible rfl)
   refine U0 (v:=?v4) 4 rfl (by kernel_rfl) (fun _ _ _ h=>h) (Or.inl ⟨by rfl,?hy4⟩) ⟨fun _=>hT1,fun _=>hT2⟩ ?_
   case hy4=>(rintro w _;go_simp;with_reducible rfl)
   refine U0 (v:=?v5) 5 rfl (by kernel_rfl) (fun _ _ _ h=>h) (Or.inl ⟨by rfl,?hy5⟩) ⟨fun _=>hT1,fun _=>hT2⟩ ?_
   case hy5=>(rintro w _;go_simp;with_reducible rfl)
   refine U0 (v:=?v6) 6 rfl (by kernel_rfl) (fun _ _ _ h=>h) (Or.inl ⟨by rfl,?hy6⟩) ⟨fun _=>hT1,fun _=>hT2⟩ ?_
   case hy6=>(rintro w _;go_simp;with_reducible rfl)
   refine zbt (v:=?v7) 7 [13,19] rfl (by kernel_rfl) (by kernel_rfl) (by kernel_rfl) (by kernel_rfl) (by kernel_rfl) (by kernel_rfl) (by kernel_rfl) (fun _ _ _ h=>h) (Or.inl ⟨by rfl,?hy7⟩) ⟨fun _=>hT1,fun _=>hT2⟩ ?_
   case hy7=>(rintro w ⟨⟨z1,z2,z3,z4⟩,z5⟩;go_simp;with_reducible rfl)
   refine U0 (v:=?v8) 8 rfl (by kernel_rfl) (fun _ _ _ h=>h) (Or.inl ⟨by rfl,?hy8⟩) ⟨fun _=>hT1,fun _=>hT2⟩ ?_
   case hy8=>(rintro w _;go_simp;with_reducible rfl)
   refine U0 (v:=?v9) 9 rfl (by kernel_rfl) (fun _ _ _ h=>h) (Or.inl ⟨by rfl,?hy9⟩) ⟨fun _=>hT1,fun _=>hT2⟩ ?_
   case hy9=>(rintro w _;go_simp;with_reducible rfl)
   refine U0 (v:=?v10) 10 rfl (by kernel_rfl) (fun _ _ _ h=>h) (Or.inl ⟨by rfl,?hy10⟩) ⟨fun _=>hT1,fun _=>hT2⟩ ?_
   case hy10=>(rintro w _;go_simp;with_reducible rfl)
   refine U0 (v:=?v11) 11 rfl (by kernel_rfl) (fun _ _ _ h=>h) (Or.inl ⟨by rfl,?hy11⟩) ⟨fun _=>hT1,fun _=>hT2⟩ ?_
   case hy11=>(rintro w _;go_simp;with_reducible rfl)
   refine zbt (v:=?v12) 12 [13,19] rfl (by kernel_rfl) (by kernel_rfl) (by kernel_rfl) (by kernel_rfl) (by kernel_rfl) (by kernel_rfl) (by kernel_rfl) (fun _ _ _ h=>h) (Or.inl ⟨by rfl,?hy12⟩) ⟨fun _=>hT1,fun _=>hT2⟩ ?_
   case hy12=>(rintro w ⟨⟨z1,z2,z3,z4⟩,z5⟩;go_simp;with_reducible rfl)
   refine U_take0 (v:= .int .i64 (n:Nat)) 13 rfl (by kernel_rfl) (by kernel_rfl) (by kernel_rfl) (by kernel_rfl) (fun _ _ _ h=>h) (Or.inl ⟨by rfl,?hy13⟩) ⟨fun _=>hT1,fun _=>hT2⟩ ?_
   case hy13=>(rintro w _;go_simp;first|(with_reducible rfl)|(split<;>omega))
   refine U0 (v:=?v14) 14 rfl (by kernel_rfl) (fun _ _ _ h=>h) (Or.inl ⟨by rfl,?hy14⟩) ⟨fun _=>hT1,fun _=>hT2⟩ ?_
   case hy14=>(rintro w _;go_simp;with_reducible rfl)
   refine U0 (v:=?v15) 15 rfl (by kernel_rfl) (fun _ _ _ h=>h) (Or.inl ⟨by rfl,?hy15⟩) ⟨fun _=>hT1,fun _=>hT2⟩ ?_
   case hy15=>(rintro w _;go_simp;with_reducible rfl)
   refine U0 (v:=?v16) 16 rfl (by kernel_rfl) (fun _ _ _ h=>h) (Or.inl ⟨by rfl,?hy16⟩) ⟨fun _=>hT1,fun _=>hT2⟩ ?_
   case hy16=>(rintro w _;go_simp;with_reducible rfl)
   refine U0 (v:=?v17) 17 rfl (by kernel_rfl) (fun _ _ _ h=>h) (Or.inl ⟨by rfl,?hy17⟩) ⟨fun _=>hT1,fun _=>hT2⟩ ?_
   case hy17=>(rintro w _;go_simp;with_reducible rfl)
   refine U1 (v:=?v18) 18 rfl (by kernel_rfl) (fun _ _ _ h=>h) (Or.inl ⟨by rfl,?hy18⟩) ⟨fun _=>hT1,fun _=>hT2⟩ ?_
   case hy18=>(rintro w ⟨⟨z1,z2,z3,z4⟩,z5⟩;go_simp;with_reducible rfl)
   refine za1 19 (by kernel_rfl) rfl (fun K hK=>?_)
   go_simp
   refine btrade_any E1 E2 o1 o2 _ _ _ _ n p _ _ hOk2 hOj2 hEne hn1 hn2 hb1 hb2' ?_
   intro X1 k1 k2 k3
   have hX1:BKs X1 b mc'.phase mc'.all:=by rw[hmc'];exact HT.o n p X X1 HW2.o.bks k1 k2 k3
   have hV1:=HW2.o.vo.same k3.size (k3.blk _ HW2.o.vo.lt (by rintro (e|e)<;>omega))
   have hD1:zgf X1 (w.heap.size+1) w.heap.size T v:=HW2.o.tv.same k3.size (k3.blk _ HW2.o.tv.var.lt (by rintro (e|e)<;>omega)) (fun g hg=>k3.blk g (HW2.o.tv.row.lt g hg).2 (by have:=(HW2.o.tv.row.lt g hg).1;rintro (e|e)<;>omega))
   have hC1:Tch b.F w X1:=HW2.o.tch.trans (k3.widen hTF)
   have hK1:KeepsFrom W2.heap.size W X1:=(HK2.o.from _).trans ⟨k3.size,fun g ob hg hgo _=>(k3.blk g (gsi.1 hgo).1 (by rintro (e|e)<;>omega)).trans hgo⟩
   have hM1:MW b w k0 w.heap.size (w.heap.size+1) mc' T v X1:=⟨hX1,hV1,hD1,hC1,HW2.o.so⟩
   clear hT1 hT2 hOk2 hOj2 k1 k2 k3 HW2 HK2 HT hX1 hV1 hD1
   rw[hvv] at hM1
   have hT2':=hM1.tv.var.cell
   have hs1':w.heap.size<=X1.heap.size:=hC1.size
   obtain ⟨t,htd⟩: ∃t,tdOf o1 o2 n p=t:=⟨_,rfl⟩
   rw[htd] at hP'
   rw[htd]
   unfold tdv
   refine hK.o _ _ ⟨(fun h=>absurd h (by decide)),fun _=>hT2'⟩ ?_
   clear hK K
   refine za1 20 (by kernel_rfl) rfl (fun K hK=>?_)
   go_simp
   refine hK.o _ _ ⟨(fun h=>absurd h (by decide)),fun _=>zaa (zac _ _) hT2'⟩ ?_
   clear hK K
   refine za1 21 (by kernel_rfl) rfl (fun K hK=>?_)
   refine zej w.heap.size 4 32 T.length _ _ _ hM1.tv.row hs1' Tryz.infoTrade rfl (by decide) rfl ?c2 ?c3 (by decide) _ _ 208 Tryz.underlying208 rfl rfl rfl rfl ?_
   case c2=>simp[Value.oneCell']
   case c3=>omega
   intro v5 X5 hG5
   obtain ⟨hM5,x5,y5⟩:=hM1.push (t:=t) hF (by omega) (by omega) hG5
   have hK5:KeepsFrom W2.heap.size W X5:=hK1.trans ((KeepsOthers.of_grownBy hG5.grown fun j ob e hj=>zes hM1.tv.row e hj).from _)
   obtain ⟨av5,cv5,rfl⟩:=zae hG5.own
   refine hK.o _ _ ⟨(fun h=>absurd h (by decide)),fun _=>x5⟩ ?_
   clear hK K hG5 hM1 hT2'
   refine za1 22 (by kernel_rfl) rfl (fun K hK=>?_)
   go_simp
   refine hK.o _ _ ⟨(fun h=>absurd h (by decide)),(fun h=>absurd h (by decide))⟩ ?_
   clear hK K
   refine zch (by kernel_rfl) ?_
   exact⟨hK5.trans ((KeepsOthers.setCell _ _ _).from _),mc',T++[t],f',_,hP',hM5,hS',by simp;omega⟩
 case hdone=>
  rintro D W hD ⟨mc,T,f,v,h1,h2,h3,h4⟩ hK
  have hd:=Hend.o D W mc T f v hD h1 h2 (h1.done hs Hsd.o h3) (by omega) hK
  have HB:=zl (h2.bks)
  clear h1 h2 h3 Hend
  gi_wp2
  refine callsIn_wide.2 (zds b mc.phase mc.all _ _ HB.o ?_)
  intro v' w' g1 g2 g3
  obtain ⟨x6,hK6,hfin⟩:=hd v' w' g1 g2 g3
  clear hd g1 g2 g3
  gi_wp2
  refine⟨by simp,.inl ⟨_,_,rfl,run_takeDeferred hK6,?_⟩⟩
  refine⟨_,?_,hfin⟩
  simp[results,Tryz.f168,go_sem]
 case hstop=>
  rintro D c W hD ⟨rfl,mc,T,f,v,h1,h2,h3,h4⟩ hK
  have hd:=Hend.o D W mc T f v hD h1 h2 h3 h4 hK
  have HB:=zl (h2.bks)
  clear h1 h2 h3 Hend
  gi_wp2
  refine callsIn_wide.2 (zds b mc.phase mc.all _ _ HB.o ?_)
  intro v' w' g1 g2 g3
  obtain ⟨x6,hK6,hfin⟩:=hd v' w' g1 g2 g3
  clear hd g1 g2 g3
  gi_wp2
  refine⟨by simp,.inl ⟨_,_,rfl,run_takeDeferred hK6,?_⟩⟩
  refine⟨_,?_,hfin⟩
  simp[results,Tryz.f168,go_sem]
end
section
open Go.RowKit Go.Shelf
variable {f left n p v0:Nat}
theorem zli.inRound {F:Fence}{P:Program}{gf:Nat}{lb:Array Value}{N:Nat}{enc:Nat->Value}{G:World->Prop}{Φ In:Nat->World->Prop}(h:zli F n P gf lb N enc G Φ In)(l0:Nat):zli (F.inRound l0) n P gf lb N enc G Φ In:=h
structure CP (b:Bk) (m:Mk) (p v0:Nat) (mc:Mk) (left:Nat) (T:List Td) (f:Nat):Prop where
 fin:zbg p f left mc=zbg p v0 v0 m
 fuel:left<=f
 d1:left<=dep mc.phase mc.all 1 p
 d2:left<=dep mc.phase mc.all 2 p
 out:outs mc=outs m++T.map tdev
 cnt:T.length+left<=v0
 ph:mc.phase=m.phase
 len:mc.all.length=m.all.length
 sh: ∀j,(nth mc.all j).side=(nth m.all j).side/\(nth mc.all j).typ=(nth m.all j).typ/\(nth mc.all j).rest<=(nth m.all j).rest
 ok:zdm mc.all
 qd: ∀s,isSd s->Qd mc.all s (b.q s)
def ziy (b:Bk) (s k:Nat) (mc:Mk) (why:Prop):Prop:= ∀j∈(b.q s).take k,bk mc.phase (nth mc.all j)=false\/why
variable {b:Bk} {T:List Td} {m mc:Mk}
theorem CP.first (h:CP b m p v0 mc left T f){s k:Nat}{why:Prop}(hs:isSd s)(hk:k<(b.q s).length)(hsn:ziy b s k mc why)(hw: ¬why)(hb:bk mc.phase (nth mc.all (qat (b.q s) k))=true):
  za0 mc.phase mc.all s mc.all.length=(qat (b.q s) k:Nat):=by
 have hq:=h.qd s hs
 rw[split_at (b.q s) k hk] at hq
 exact hq.first mc.phase h.ok (fun j hj=>(hsn j hj).resolve_right hw) hb
theorem CP.none (h:CP b m p v0 mc left T f){s:Nat}(hs:isSd s)(hn: ∀j∈b.q s,bk mc.phase (nth mc.all j)=false):left=0:=by
 have h1:=(h.qd s hs).none mc.phase hn
 have h2:=zfz mc.phase mc.all s p h1
 have d1:=h.d1
 have d2:=h.d2
 rcases hs with rfl|rfl<;>omega
theorem CP.done (h:CP b m p v0 mc 0 T f):zbg p v0 v0 m=mc:=by
 rw[←h.fin]
 exact zey _ _ _
theorem CP.step (h:CP b m p v0 mc left T f){i j:Nat}(hl:left≠0)(hi:za0 mc.phase mc.all 1 mc.all.length=i)(hj:za0 mc.phase mc.all 2 mc.all.length=j)(n:Nat)(hn:min left (min (nth mc.all i).rest (nth mc.all j).rest)=n):
  ∃f',CP b m p v0 (zbn mc i j n p) (left-n) (T++[tdOf (nth mc.all i) (nth mc.all j) n p]) f'/\i≠j/\i<mc.all.length/\j<mc.all.length/\0<n/\(∀x,(nth (zbn mc i j n p).all x).typ=(nth mc.all x).typ/\(nth (zbn mc i j n p).all x).rest=if x=i\/x=j then (nth mc.all x).rest-n else (nth mc.all x).rest):=by
 obtain ⟨hil,hib,his⟩:i<mc.all.length/\bk mc.phase (nth mc.all i)=true/\(nth mc.all i).side=1:=by
  rcases za8 mc.phase mc.all 1 mc.all.length with e|⟨x,e,hx⟩
  .omega
  .have:x=i:=by omega
   subst this
   exact hx
 obtain ⟨hjl,hjb,hjs⟩:j<mc.all.length/\bk mc.phase (nth mc.all j)=true/\(nth mc.all j).side=2:=by
  rcases za8 mc.phase mc.all 2 mc.all.length with e|⟨x,e,hx⟩
  .omega
  .have:x=j:=by omega
   subst this
   exact hx
 have hne:i≠j:=fun e=>by rw[e] at his;omega
 have hpi:=zeb hib
 have hpj:=zeb hjb
 obtain ⟨g,rfl⟩: ∃g,f=g+1:=⟨f-1,by have:=h.fuel;omega⟩
 have hst:=zex p g left i j mc hl hi hj
 rw[hn] at hst
 have heq:zbn mc i j n p=za3 mc i j n p:=by unfold zbn;rw[if_pos his]
 rw[←heq] at hst
 have e1:=zc8 mc i j n p 1 p hil hjl (by omega) (.inl his.symm)
 have e2:=zc8 mc i j n p 2 p hil hjl (by omega) (.inr hjs.symm)
 rw[←heq] at e1 e2
 obtain ⟨k1,k2⟩:=ziz mc i j n p hil hjl hne
 have hnth:=fun x=>zh7 mc i j n p x hil hjl hne
 have hx: ∀x,(nth (zbn mc i j n p).all x).typ=(nth mc.all x).typ/\(nth (zbn mc i j n p).all x).rest=if x=i\/x=j then (nth mc.all x).rest-n else (nth mc.all x).rest:=by
  intro x
  rw[hnth]
  split<;>exact⟨rfl,rfl⟩
 refine⟨g,⟨hst.symm.trans h.fin,?_,?_,?_,?_,?_,?_,?_,?_,k1 h.ok,fun s hs=>k2 s _ (h.qd s hs)⟩,hne,hil,hjl,by omega,hx⟩
 .have:=h.fuel;omega
 .rw[zb4];have:=h.d1;omega
 .rw[zb4];have:=h.d2;omega
 .rw[zj8 mc i j n p (.inl his),h.out];simp
 .have:=h.cnt;simp;omega
 .rw[zb4,h.ph]
 .rw[zh8,h.len]
 .intro x
  have:=h.sh x
  rw[hnth]
  split
  .dsimp only;omega
  .exact this
structure CW (b:Bk) (w:World) (p:Nat) (mc:Mk) (left:Nat) (T:List Td) (v:Value) (W:World):Prop where
 bks:BKs W b mc.phase mc.all
 vb:Vb W w.heap.size (.pointer (some ⟨b.K,0,none⟩))
 vc:W.cell? ⟨w.heap.size+1,0,none⟩=some (.int .i64 (p:Nat))
 tv:zgf W (w.heap.size+2) (w.heap.size+4) T v
 vl:Vb W (w.heap.size+3) (.int .i64 (left:Nat))
 tch:Tch b.F w W
variable {v:Value} {W W' w:World}
theorem CW.kept {row:Option Nat}(h:CW b w p mc left T v W)(hF: ∀g,b.F g->g<w.heap.size)(hg:W.grownBy W' row)(hr: ∀r,row=some r->w.heap.size<=r/\ ∃o:Obj,W.heap[r]?=some o/\o.isCells=false):CW b w p mc left T v W':=
 ⟨h.bks.kept hg (fun r e hf=>by have:=hF r hf;have:=(hr r e).1;omega),h.vb.kept hg (fun r e=>(hr r e).2),cell_kept h.vc hg (fun r e=>(hr r e).2),h.tv.kept hg (fun r e=>(hr r e).2),h.vl.kept hg (fun r e=>(hr r e).2),
  h.tch.andThen hg.os hg.tape hg.output hg.size (fun g hgl _=>hg.block g (lll hgl h.tch.size) (fun e=>by have:=(hr g e.symm).1;omega))⟩
theorem CW.ext (h:CW b w p mc left T v W)(hb:Below W.heap.size W W'):CW b w p mc left T v W':=
 ⟨h.bks.ext hb,h.vb.ext hb,zaa hb h.vc,h.tv.ext hb,h.vl.ext hb,h.tch.andThen hb.os hb.tape hb.output hb.size (fun g hg _=>hb.block g (lll hg h.tch.size))⟩
theorem CW.trade {s t i k:Nat}(h:CW b w p mc left T v W)(hF: ∀g,b.F g->g<w.heap.size)(hs:isSd s)(hi:i∈b.q s)(ht:isSd t)(hk:k∈b.q t)(hik:i≠k)(hil:i<mc.all.length)(hkl:k<mc.all.length)
  (o1:OB W' (b.adr i) {nth mc.all i with rest:=(nth mc.all i).rest-n} (wt mc.phase (nth mc.all i)) i)(o2:OB W' (b.adr k) {nth mc.all k with rest:=(nth mc.all k).rest-n} (wt mc.phase (nth mc.all k)) k)
  (hT:Tch (fun g=>g=b.adr i\/g=b.adr k) W W'):CW b w p (zbn mc i k n p) left T v W':=by
 have hTF: ∀g,(g=b.adr i\/g=b.adr k)->b.F g:=by
  rintro g (rfl|rfl)
  .exact .inr (.inr ⟨_,hs,.inr ⟨_,hi,rfl⟩⟩)
  .exact .inr (.inr ⟨_,ht,.inr ⟨_,hk,rfl⟩⟩)
 have hfar: ∀g,w.heap.size<=g->g<W.heap.size->W'.heap[g]?=W.heap[g]?:=fun g h1 h2=>hT.blk g h2 (fun e=>by have:=hF g (hTF g e);omega)
 refine⟨h.bks.trade hs hi ht hk hik hil hkl o1 o2 hT,h.vb.same hT.size (hfar _ nr h.vb.lt),(World.cell?_of_block (a:=⟨w.heap.size+1,0,none⟩) (hfar (w.heap.size+1) (by omega) (zab h.vc))).trans h.vc,
  h.tv.same hT.size (hfar _ (by omega) h.tv.var.lt) (fun g hg=>hfar g (by have:=(h.tv.row.lt g hg).1;omega) (h.tv.row.lt g hg).2),h.vl.same hT.size (hfar _ (by omega) h.vl.lt),h.tch.trans (hT.widen hTF)⟩
theorem CW.push {t:Td}{v':Value}(h:CW b w p mc left T v W)(hF: ∀g,b.F g->g<w.heap.size)(hG:Grew (w.heap.size+4) 233 4 W v W' v' (T.length+1) (tdcs T++tdc t)):
  CW b w p mc left (T++[t]) v' (W'.setCell ⟨w.heap.size+2,0,none⟩ v')/\W'.cell? ⟨w.heap.size+2,0,none⟩=some v/\W'.frozen? ⟨w.heap.size+2,0,none⟩=false:=by
 obtain ⟨h1,h2,h3⟩:=h.tv.push hG
 have hrow: ∀r,v.ownBlock=some r->w.heap.size+4<=r:=fun r e=>(h.tv.row.lt r e).1
 have hne: ∀g,g<w.heap.size+4->some g≠v.ownBlock:=fun g hg e=>by have:=hrow g e.symm;omega
 refine⟨⟨?_,?_,?_,h1,?_,?_⟩,h2,h3⟩
 .refine(h.bks.kept hG.grown (fun r e hf=>by have:=hF r hf;have:=hrow r e;omega)).keep fun g hg=>?_
  exact bhs _ _ _ _ (fun e=>by have:=hF g hg;have:g=w.heap.size+2:=e;omega)
 .exact(h.vb.same hG.grown.size (hG.grown.block _ h.vb.lt (hne _ (by omega)))).set_other (by omega)
 .rw[World.cell?_of_block (a:=⟨w.heap.size+1,0,none⟩) (bhs W' ⟨w.heap.size+2,0,none⟩ v' _ (show w.heap.size+1≠w.heap.size+2 by omega)),World.cell?_of_block (a:=⟨w.heap.size+1,0,none⟩) (hG.grown.block _ (zab h.vc) (hne _ (show w.heap.size+1<_ by omega)))]
  exact h.vc
 .exact(h.vl.same hG.grown.size (hG.grown.block _ h.vl.lt (hne _ (by omega)))).set_other (by omega)
 .refine h.tch.andThen hG.grown.os hG.grown.tape hG.grown.output (by simpa [World.setCell] using hG.grown.size) fun g hg _=>?_
  rw[bhs _ _ _ _ (fun e=>by have:g=w.heap.size+2:=e;omega)]
  exact hG.grown.block g (lll hg h.tch.size) (hne g (by omega))
theorem CW.less {left':Nat}(h:CW b w p mc left T v W)(hF: ∀g,b.F g->g<w.heap.size):CW b w p mc left' T v (W.setCell ⟨w.heap.size+3,0,none⟩ (.int .i64 (left':Nat))):=by
 have hne: ∀g,g≠w.heap.size+3->(W.setCell ⟨w.heap.size+3,0,none⟩ (.int .i64 (left':Nat))).heap[g]?=W.heap[g]?:=fun g hg=>bhs _ _ _ _ hg
 have hsz:W.heap.size<=(W.setCell ⟨w.heap.size+3,0,none⟩ (.int .i64 (left':Nat))).heap.size:=by simp[World.setCell]
 refine⟨h.bks.keep fun g hg=>hne g (by have:=hF g hg;omega),h.vb.set_other (by omega),(World.cell?_of_block (a:=⟨w.heap.size+1,0,none⟩) (hne (w.heap.size+1) (by omega))).trans h.vc,
  h.tv.same hsz (hne _ (by omega)) (fun g hg=>hne g ?_),h.vl.set _,h.tch.andThen rfl rfl rfl hsz (fun g hg _=>hne g (by omega))⟩
 have:=(h.tv.row.lt g hg).1
 omega
theorem zid {B B':Nat}{e:TypeId}{size:Nat}{xs:List Value}(h:w.ownsRow B e size v n xs)(hb:B'<=B):w.ownsRow B' e size v n xs:=by
 refine⟨h.1,?_⟩
 rcases h.2 with h2|⟨g,cap,cur,h1,hbg,r⟩
 .exact .inl h2
 .exact .inr ⟨g,cap,cur,h1,llt hb hbg,r⟩
end
