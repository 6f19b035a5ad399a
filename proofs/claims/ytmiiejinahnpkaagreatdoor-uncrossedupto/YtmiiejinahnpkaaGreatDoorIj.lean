import Derived.Test.YtmiiejinahnpkaaGreatDoorXIgIm
set_option maxRecDepth 100000
set_option maxHeartbeats 4000000
namespace Go.Proofs.YtmiiejinahnpkaaGreatDoor
open Go.RowKit Go.Shelf Go.Maps
theorem bAdd_any (b:Bk)(ph:Nat)(l:List Od)(o:Od)(w:World)(R:EW)(h:BKs w b ph l)(hone:oneId l)(hl:l.length<=1000000000)(hsd:isSd o.side)(hid:o.id<=4294967295)(hcnt:(b.q o.side).length+1<=1048576)(hlt: ∀s,isSd s-> ∀i∈b.q s,i<l.length)
  (hR: ∀(E:Nat) (v':Value) (k:Nat) (w':World),w.heap.size<=E->BKs w' (b.added E v' k l.length o.side) ph (l++[o])->k<=(b.q o.side).length->(∀j,j<k->tkP (nth l (qat (b.q o.side) j)) (lim o)=true)->(k<(b.q o.side).length->tkP (nth l (qat (b.q o.side) k)) (lim o)=false)->
   Tch (fun g=>b.T g\/g=b.M) w w'->(v'.ownBlock=(b.v o.side).ownBlock\/ ∀g,v'.ownBlock=some g->w.heap.size<=g)->R (.returned (.pointer (some ⟨E,0,none⟩))) w'):
  Calls Tryz.prog 163 #[.pointer (some ⟨b.K,0,none⟩),ordv o (wt ph o)] w R:=by
 have hb0:=zac w (.cells (ordc o (wt ph o)) 89)
 have hbox:(w.alloc (.cells (ordc o (wt ph o)) 89)).heap[w.heap.size]?=some (.cells (ordc o (wt ph o)) 89 (0,0)):=World.alloc_heap_new w _
 have hM:b.M<w.heap.size:=h.ids.lt
 have hsz:=ids_size hone
 have hids0:(w.alloc (.cells (ordc o (wt ph o)) 89)).drew.ownsMap Tryz.prog 3 (unitElem (H:=Unit)) b.M l.length (zb7 l):=zcj h.ids (hb0.block b.M hM)
 have hlen:=fun (W:World) (hW:W.ownsMap Tryz.prog 3 (unitElem (H:=Unit)) b.M l.length (zb7 l))=>hW.len (t:=147) Tryz.underlying147 3
 rw[hsz] at hlen
 have c3:(w.alloc (.cells (ordc o (wt ph o)) 89)).drew.cell? ⟨b.K,3,none⟩=some (.map (some b.M)):=zaa hb0.drew (h.cells 3 _ rfl)
 go_enter Tryz.func163,Tryz.ntmps163
 unfold ordv
 unfold ordc at *
 go_wp2_with fail
 rename_i K hKr
 have HREST:Hid (∀(E Ev:Nat) (W:World),AS b w ph l o E Ev W->W.ownsMap Tryz.prog 3 (unitElem (H:=Unit)) b.M l.length (zb7 l)->K {tmps:= #[.pointer (some ⟨b.K,0,none⟩),.agg #[.int .i64 o.id,.int .i64 o.side,.int .i64 o.typ,.int .i64 o.price,.int .i64 o.rest,.bool (wt ph o)],undef,.pointer (some ⟨w.heap.size,0,none⟩),.pointer none,.pointer (some ⟨Ev,0,none⟩),undef,undef,undef,.agg #[.int .i64 o.id,.int .i64 o.side,.int .i64 o.typ,.int .i64 o.price,.int .i64 o.rest,.bool (wt ph o)],.pointer (some ⟨b.K,0,none⟩),.pointer (some ⟨b.K,0,none⟩),.pointer (some ⟨b.K,3,none⟩),.map (some b.M),.int .i64 (l.length:Nat),.agg #[.int .i64 o.id,.int .i64 o.side,.int .i64 o.typ,.int .i64 o.price,.int .i64 o.rest,.bool (wt ph o),.int .i64 (l.length:Nat)],.pointer (some ⟨E,0,none⟩),undef,undef,undef,undef,undef,undef,undef,undef,undef,undef,undef,undef,undef,undef,undef,undef,undef,undef,undef,undef,undef,undef,undef,undef,undef,undef,undef,undef,undef,undef,undef,undef,undef,undef],defers:=[]} W):=by
  intro E Ev W hA hids
  have hkey:keyOf Tryz.prog 3 (.int .i64 (o.id:Nat))=some (.int .i64 (o.id:Nat)):=keyOf_int_mk Tryz.underlying3 (WalkArith.wf_i64 (by omega))
  have HA:=zl hA
  have HB:=zl h
  have x3:W.drew.cell? ⟨b.K,3,none⟩=some (.map (some b.M)):=by
   have:=(h.part hA.tch).1
   have hd:W.drew.heap[b.K]?=_:=this
   rw[cell_of_row _ _ 3 _ _ (0,0) hd];rfl
  have y0:W.drew.cell? ⟨w.heap.size,0,none⟩=some (.int .i64 (o.id:Nat)):=by
   have hd:W.drew.heap[w.heap.size]?=_:=hA.box
   rw[cell_of_row _ _ 0 _ _ (0,0) hd];rfl
  have hidsd:W.drew.ownsMap Tryz.prog 3 (unitElem (H:=Unit)) b.M l.length (zb7 l):=hids
  clear hids hA h hbox hb0 hids0 c3
  refine hKr _ _ ?_
  go_wp2_with fail
  refine wp_region_still_tail 7 zco (by kernel_rfl) ?_
  simp only[List.take_succ_cons,List.take_zero,List.drop_succ_cons,List.drop_zero]
  change wpStill _ _ W.drew (fun a'=>wpList _ _ _ _ a' W.drew) _ _
  have HA1:Hid (AS b w ph l o E Ev W.drew):=HA.o.grown (r:=none) (zdc br.drew) (fun g e=>by cases e) hM
  clear HA
  generalize W.drew=W1 at *
  iterate 7 still_step
  refine wpStill_nil ?_
  refine wpList_mapUpdate_own _ rfl _ _ _ 147 rfl 3 221 Tryz.keyInt Tryz.underlying147 _ b.M l.length (zb7 l) rfl hidsd (by unfold maxLen;omega) _ _ _ rfl rfl hkey (.agg []) [] unitElem_mk ?_
  intro W2 hids2 hgr2
  have HA2:Hid (AS b w ph l o E Ev W2):=HA1.o.grown hgr2 (fun g e=>by cases e;rfl) hM
  rw[←ids_snoc] at hids2
  have HI2:=zl hids2
  clear hids2 hgr2 HA1 hidsd x3 y0
  obtain ⟨q,hqe⟩: ∃q,b.q o.side=q:=⟨_,rfl⟩
  obtain ⟨v,hve⟩: ∃v,b.v o.side=v:=⟨_,rfl⟩
  have hcells:=fun (X:World) (hX:AS b w ph l o E Ev X)=>(HB.o.part hX.tch).1
  obtain ⟨av,cv,hvs⟩:=zae (HB.o.row o.side hsd)
  rw[hqe,hve] at hvs
  have HFIN:Hid (∀k v5 W4 W5,AS b w ph l o E Ev W4->W4.ownsMap Tryz.prog 3 (unitElem (H:=Unit)) b.M (l.length+1) (zb7 (l++[o]))->k<=q.length->(∀j,j<k->(!tkP (nth l (qat q j)) (lim o))=false)->(k<q.length->(!tkP (nth l (qat q k)) (lim o))=true)->
    W5.ownsRow 0 106 1 v5 (q.length+1) (ptrs (fun j=>if j=l.length then E else b.adr j) (q.take k++l.length::q.drop k))->W4.grownBy W5 v.ownBlock->(v5.ownBlock=v.ownBlock\/ ∀g,v5.ownBlock=some g->W4.heap.size<=g)->R (.returned (.pointer (some ⟨E,0,none⟩))) (W5.setCell ⟨b.K,o.side,none⟩ v5)):=by
   rw[←hqe,←hve]
   intro k v5 W4 W5 a1 a2 a3 a4 a5 a6 a7 a8
   obtain ⟨r1,r2⟩:=add_shut HB.o hsd hcnt hlt a1 a2 a3 a6 a7 a8
   refine hR E v5 k _ (Nat.le_of_lt a1.e1) r1 a3 (fun j hj=>by simpa using a4 j hj) (fun hj=>by simpa using a5 hj) r2 ?_
   rcases a8 with a8|a8
   .exact .inl a8
   .exact .inr fun g e=>llt a1.tch.size (a8 g e)
  have y1:W2.cell? ⟨w.heap.size,1,none⟩=some (.int .i64 (o.side:Nat)):=by rw[cell_of_row _ _ 1 _ _ (0,0) HA2.o.box];rfl
  have ck:W2.cell? ⟨b.K,o.side,none⟩=some (.slice av q.length cv):=by
   rw[cell_of_row _ _ _ _ _ (0,0) (hcells _ HA2.o),←hvs,←hve]
   rcases hsd with e|e<;>rw[e]<;>rfl
  have HPT:Hid (ptrs (fun j=>if j=l.length then E else b.adr j) q=ptrs b.adr q):=by rw[←hqe];exact ptrs_same (hlt _ hsd)
  have HROW:Hid (∀X,AS b w ph l o E Ev X->X.ownsRow 0 106 1 (.slice av q.length cv) q.length (ptrs (fun j=>if j=l.length then E else b.adr j) q)):=by
   intro X hX
   have:=(HB.o.part hX.tch).2.1 o.side hsd
   rw[hqe,hve,hvs] at this
   rw[HPT.o]
   exact this
  have HVL:Hid (∀g,(Value.slice av q.length cv).ownBlock=some g->g<w.heap.size):=by
   intro g e
   rw[←hvs,←hve] at e
   exact HB.o.lt (.inr (.inr ⟨_,hsd,.inl e⟩))
  have HKV:Hid ((Value.slice av q.length cv).ownBlock≠some b.K):=by
   rw[←hvs,←hve]
   exact HB.o.rowK hsd
  have HPRED:Hid (∀X,AS b w ph l o E Ev X->PredQ X none 185 #[.pointer (some ⟨Ev,0,none⟩)] b.adr q (fun j=>!tkP (nth l j) (lim o))):=by
   intro X hX Y hY j hj R' hR'
   have hY':AS b w ph l o E Ev Y:=hX.grown hY (fun g e=>by cases e) hM
   exact bAdd1_any b ph l o (wt ph o) E Ev l.length j Y R' ((HB.o.part hY'.tch).2.2 o.side hsd j (by rw[hqe];exact hj)) hY'.ob hY'.vv.cell (hR' Y (zha _ _))
  have hqn:q.length<=1048576:=by rw[←hqe];omega
  rw[hvs] at HFIN
  clear hR hsz hlen hqe hve hvs hcnt hlt hone
  rcases hsd with e|e
  .have ei:(o.side:Int)=1:=by omega
   rw[e] at ck
   go_wp2_with fail
   go_quiet (fail)
   go_wp2_with fail
   have HA3:Hid (AS b w ph l o E Ev (W2.drewN nq)):=HA2.o.grown (r:=none) (zdc (below_drewN br _)) (fun g e=>by cases e) hM
   have HI3:Hid ((W2.drewN nq).ownsMap Tryz.prog 3 (unitElem (H:=Unit)) b.M (l.length+1) (zb7 (l++[o]))):=zcj HI2.o rfl
   clear HA2 HI2 y1 ck
   generalize W2.drewN nq=W3 at *
   have hrow3:=HROW.o W3 HA3.o
   rw[HPT.o] at hrow3
   refine zf0 (.slice av q.length cv) b.adr q 185 #[.pointer (some ⟨Ev,0,none⟩)] (enters_of Tryz.func185 (by kernel_rfl) rfl) (fun j=>!tkP (nth l j) (lim o)) _ _ hrow3 hqn (HPRED.o W3 HA3.o) ?_ ?_
   .intro W4 hg4 hall
    have HA4:=zl (HA3.o.grown hg4 (fun g e=>by cases e) hM)
    have HI4:Hid (W4.ownsMap Tryz.prog 3 (unitElem (H:=Unit)) b.M (l.length+1) (zb7 (l++[o]))):=zcj HI3.o (hg4.block b.M HI3.o.lt (fun e=>by cases e))
    have Hall:=zl hall
    clear hall hg4 HA3 HI3 hrow3
    go_wp2_with fail
    obtain ⟨W5,hW5⟩: ∃W5,W4.drew=W5:=⟨_,rfl⟩
    have HA5:Hid (AS b w ph l o E Ev W5):=by rw[←hW5];exact HA4.o.grown (r:=none) (zdc br.drew) (fun g e=>by cases e) hM
    have HI5:Hid (W5.ownsMap Tryz.prog 3 (unitElem (H:=Unit)) b.M (l.length+1) (zb7 (l++[o]))):=by rw[←hW5];exact HI4.o
    have hT8:W5.cell? ⟨w.heap.size,1,none⟩=some (.int .i64 1)/\W5.cell? ⟨Ev,0,none⟩=some (.pointer (some ⟨E,0,none⟩)):=⟨by rw[cell_of_row _ _ 1 _ _ (0,0) HA5.o.box,←ei];rfl,HA5.o.vv.cell⟩
    refine zbq 11 11 (fun W=>W.cell? ⟨w.heap.size,1,none⟩=some (.int .i64 1)/\W.cell? ⟨Ev,0,none⟩=some (.pointer (some ⟨E,0,none⟩))) (fun W=>W.cell? ⟨w.heap.size,1,none⟩=some (.int .i64 1)/\W.cell? ⟨Ev,0,none⟩=some (.pointer (some ⟨E,0,none⟩))) zco ?_
    rw[hW5]
    clear hW5 HA4 HI4
    refine U0 (v:=?wsa0) 0 rfl (by kernel_rfl) (fun _ _ _ h=>h) (Or.inl ⟨by rfl,?hwsa0⟩) ⟨fun _=>hT8,fun _=>hT8⟩ ?_
    case hwsa0=>(rintro w' _;go_simp;with_reducible rfl)
    refine U0 (v:=?wsa1) 1 rfl (by kernel_rfl) (fun _ _ _ h=>h) (Or.inl ⟨by rfl,?hwsa1⟩) ⟨fun _=>hT8,fun _=>hT8⟩ ?_
    case hwsa1=>(rintro w' _;go_simp;with_reducible rfl)
    refine zc3 (v:=?wsa2) 2 rfl (by kernel_rfl) (by kernel_rfl) (by kernel_rfl) (by kernel_rfl) (by kernel_rfl) (by kernel_rfl) (fun _ _ _ h=>h) (Or.inl ⟨by rfl,?hwsa2⟩) ⟨fun _=>hT8,fun _=>hT8⟩ ?_
    case hwsa2=>(rintro w' ⟨z1,z2⟩;go_simp;with_reducible rfl)
    refine U0 (v:=?wsa3) 3 rfl (by kernel_rfl) (fun _ _ _ h=>h) (Or.inl ⟨by rfl,?hwsa3⟩) ⟨fun _=>hT8,fun _=>hT8⟩ ?_
    case hwsa3=>(rintro w' _;go_simp;with_reducible rfl)
    refine U0 (v:=?wsa4) 4 rfl (by kernel_rfl) (fun _ _ _ h=>h) (Or.inl ⟨by rfl,?hwsa4⟩) ⟨fun _=>hT8,fun _=>hT8⟩ ?_
    case hwsa4=>(rintro w' _;go_simp;with_reducible rfl)
    refine zc3 (v:=?wsa5) 5 rfl (by kernel_rfl) (by kernel_rfl) (by kernel_rfl) (by kernel_rfl) (by kernel_rfl) (by kernel_rfl) (fun _ _ _ h=>h) (Or.inl ⟨by rfl,?hwsa5⟩) ⟨fun _=>hT8,fun _=>hT8⟩ ?_
    case hwsa5=>(rintro w' ⟨z1,z2⟩;go_simp;with_reducible rfl)
    refine U0 (v:=?wsa8) 8 rfl (by kernel_rfl) (fun _ _ _ h=>h) (Or.inl ⟨by rfl,?hwsa8⟩) ⟨fun _=>hT8,fun _=>hT8⟩ ?_
    case hwsa8=>(rintro w' _;go_simp;with_reducible rfl)
    refine U0 (v:=?wsa9) 9 rfl (by kernel_rfl) (fun _ _ _ h=>h) (Or.inl ⟨by rfl,?hwsa9⟩) ⟨fun _=>hT8,fun _=>hT8⟩ ?_
    case hwsa9=>(rintro w' _;go_simp;with_reducible rfl)
    refine za1 6 (by kernel_rfl) rfl (fun K' hK=>?_)
    go_simp
    have hTb:=zac W5 (.cells #[.pointer (some ⟨E,0,none⟩)] 106)
    have hx6:=World.alloc_heap_new W5 (.cells #[.pointer (some ⟨E,0,none⟩)] 106)
    have HA6:Hid (AS b w ph l o E Ev (W5.alloc (.cells #[.pointer (some ⟨E,0,none⟩)] 106))):=HA5.o.grown (r:=none) (zdc hTb) (fun g e=>by cases e) hM
    have HI6:Hid ((W5.alloc (.cells #[.pointer (some ⟨E,0,none⟩)] 106)).ownsMap Tryz.prog 3 (unitElem (H:=Unit)) b.M (l.length+1) (zb7 (l++[o]))):=HI5.o.alloc _
    have hT9:=And.intro (zaa hTb hT8.1) (zaa hTb hT8.2)
    have hs5:w.heap.size<=W5.heap.size:=HA5.o.tch.size
    refine hK.o _ _ ⟨fun _=>hT9,fun _=>hT9⟩ ?_
    clear hK K' HA5 HI5 hT8 hTb
    generalize W5.alloc (.cells #[.pointer (some ⟨E,0,none⟩)] 106)=W6 at *
    have hrow6:=HROW.o W6 HA6.o
    have hvl6:=HVL.o
    refine za1 7 (by kernel_rfl) rfl (fun K' hK=>?_)
    go_simp
    refine zgt (.slice av q.length cv) (fun j=>if j=l.length then E else b.adr j) q q.length l.length W5.heap.size _ _ hrow6 hqn (by omega) (by rw[if_pos rfl];exact hx6) (fun e=>by have:=hvl6 _ e;omega) ?_
    intro v7 W7 r1 r2 r3
    have Hf:=HFIN.o q.length v7 W6 W7 HA6.o HI6.o (by omega) Hall.o (fun hh=>absurd hh (by omega)) r1 r2 r3
    have hfar: ∀g,w.heap.size<=g->g<W6.heap.size->W7.heap[g]?=W6.heap[g]?:=fun g h1 h2=>r2.block g h2 (fun e=>by have:=hvl6 g e.symm;omega)
    have hT10:W7.cell? ⟨w.heap.size,1,none⟩=some (.int .i64 1)/\W7.cell? ⟨Ev,0,none⟩=some (.pointer (some ⟨E,0,none⟩)):=⟨(World.cell?_of_block (a:=⟨w.heap.size,1,none⟩) (hfar w.heap.size nr (zab hT9.1))).trans hT9.1,(World.cell?_of_block (a:=⟨Ev,0,none⟩) (hfar Ev (Nat.le_of_lt HA6.o.e2) (zab hT9.2))).trans hT9.2⟩
    have hK7:W7.heap[b.K]?=some (.cells #[.slice none 0 0,b.v 1,b.v 2,.map (some b.M)] 149 (0,0)):=(r2.block b.K (lll (HB.o.lt (.inl rfl)) HA6.o.tch.size) (fun e=>HKV.o e.symm)).trans (hcells W6 HA6.o)
    have kc:W7.cell? ⟨b.K,1,none⟩=some (b.v 1):=by rw[cell_of_row _ _ 1 _ _ (0,0) hK7];rfl
    have kf:W7.frozen? ⟨b.K,1,none⟩=false:=by simp[World.frozen?,hK7]
    have hev:(W7.setCell ⟨b.K,1,none⟩ v7).cell? ⟨Ev,0,none⟩=some (.pointer (some ⟨E,0,none⟩)):=(World.cell?_of_block (a:=⟨Ev,0,none⟩) (bhs W7 ⟨b.K,1,none⟩ v7 Ev (by have:=HB.o.lt (.inl rfl);have:=HA6.o.e2;show Ev≠b.K;omega))).trans hT10.2
    obtain ⟨a7,c7,rfl⟩:=zae r1
    refine hK.o _ _ ⟨fun _=>hT10,fun _=>hT10⟩ ?_
    clear hK K' r1 r2 r3 hfar hx6 hrow6 hvl6
    refine U0 (v:=?wsa10) 10 rfl (by kernel_rfl) (fun _ _ _ h=>h) (Or.inl ⟨by rfl,?hwsa10⟩) ⟨fun _=>hT10,fun _=>hT10⟩ ?_
    case hwsa10=>(rintro w' _;go_simp;with_reducible rfl)
    refine za1 11 (by kernel_rfl) rfl (fun K' hK=>?_)
    go_simp
    refine hK.o _ _ ⟨(fun h=>absurd h (by decide)),(fun h=>absurd h (by decide))⟩ ?_
    clear hK K'
    refine zch (by kernel_rfl) ?_
    rw[e] at Hf
    have HF:Hid _:=Hf
    clear Hf hT10 hT9 kc kf
    go_wp2_with fail
    exact HF.o
   .intro k W4 hg4 hkl hall hk1
    have HA4:=zl (HA3.o.grown hg4 (fun g e=>by cases e) hM)
    have HI4:Hid (W4.ownsMap Tryz.prog 3 (unitElem (H:=Unit)) b.M (l.length+1) (zb7 (l++[o]))):=zcj HI3.o (hg4.block b.M HI3.o.lt (fun e=>by cases e))
    have Hall:=zl hall
    have Hk1:=zl hk1
    clear hall hk1 hg4 HA3 HI3 hrow3
    go_wp2_with fail
    obtain ⟨W5,hW5⟩: ∃W5,W4.drew=W5:=⟨_,rfl⟩
    have HA5:Hid (AS b w ph l o E Ev W5):=by rw[←hW5];exact HA4.o.grown (r:=none) (zdc br.drew) (fun g e=>by cases e) hM
    have HI5:Hid (W5.ownsMap Tryz.prog 3 (unitElem (H:=Unit)) b.M (l.length+1) (zb7 (l++[o]))):=by rw[←hW5];exact HI4.o
    have hT8:W5.cell? ⟨w.heap.size,1,none⟩=some (.int .i64 1)/\W5.cell? ⟨Ev,0,none⟩=some (.pointer (some ⟨E,0,none⟩)):=⟨by rw[cell_of_row _ _ 1 _ _ (0,0) HA5.o.box,←ei];rfl,HA5.o.vv.cell⟩
    refine zbq 11 11 (fun W=>W.cell? ⟨w.heap.size,1,none⟩=some (.int .i64 1)/\W.cell? ⟨Ev,0,none⟩=some (.pointer (some ⟨E,0,none⟩))) (fun W=>W.cell? ⟨w.heap.size,1,none⟩=some (.int .i64 1)/\W.cell? ⟨Ev,0,none⟩=some (.pointer (some ⟨E,0,none⟩))) zco ?_
    rw[hW5]
    clear hW5 HA4 HI4
    refine U0 (v:=?wsb0) 0 rfl (by kernel_rfl) (fun _ _ _ h=>h) (Or.inl ⟨by rfl,?hwsb0⟩) ⟨fun _=>hT8,fun _=>hT8⟩ ?_
    case hwsb0=>(rintro w' _;go_simp;with_reducible rfl)
    refine U0 (v:=?wsb1) 1 rfl (by kernel_rfl) (fun _ _ _ h=>h) (Or.inl ⟨by rfl,?hwsb1⟩) ⟨fun _=>hT8,fun _=>hT8⟩ ?_
    case hwsb1=>(rintro w' _;go_simp;with_reducible rfl)
    refine zc3 (v:=?wsb2) 2 rfl (by kernel_rfl) (by kernel_rfl) (by kernel_rfl) (by kernel_rfl) (by kernel_rfl) (by kernel_rfl) (fun _ _ _ h=>h) (Or.inl ⟨by rfl,?hwsb2⟩) ⟨fun _=>hT8,fun _=>hT8⟩ ?_
    case hwsb2=>(rintro w' ⟨z1,z2⟩;go_simp;with_reducible rfl)
    refine U0 (v:=?wsb3) 3 rfl (by kernel_rfl) (fun _ _ _ h=>h) (Or.inl ⟨by rfl,?hwsb3⟩) ⟨fun _=>hT8,fun _=>hT8⟩ ?_
    case hwsb3=>(rintro w' _;go_simp;with_reducible rfl)
    refine U0 (v:=?wsb4) 4 rfl (by kernel_rfl) (fun _ _ _ h=>h) (Or.inl ⟨by rfl,?hwsb4⟩) ⟨fun _=>hT8,fun _=>hT8⟩ ?_
    case hwsb4=>(rintro w' _;go_simp;with_reducible rfl)
    refine zc3 (v:=?wsb5) 5 rfl (by kernel_rfl) (by kernel_rfl) (by kernel_rfl) (by kernel_rfl) (by kernel_rfl) (by kernel_rfl) (fun _ _ _ h=>h) (Or.inl ⟨by rfl,?hwsb5⟩) ⟨fun _=>hT8,fun _=>hT8⟩ ?_
    case hwsb5=>(rintro w' ⟨z1,z2⟩;go_simp;with_reducible rfl)
    refine U0 (v:=?wsb8) 8 rfl (by kernel_rfl) (fun _ _ _ h=>h) (Or.inl ⟨by rfl,?hwsb8⟩) ⟨fun _=>hT8,fun _=>hT8⟩ ?_
    case hwsb8=>(rintro w' _;go_simp;with_reducible rfl)
    refine U0 (v:=?wsb9) 9 rfl (by kernel_rfl) (fun _ _ _ h=>h) (Or.inl ⟨by rfl,?hwsb9⟩) ⟨fun _=>hT8,fun _=>hT8⟩ ?_
    case hwsb9=>(rintro w' _;go_simp;with_reducible rfl)
    refine za1 6 (by kernel_rfl) rfl (fun K' hK=>?_)
    go_simp
    have hTb:=zac W5 (.cells #[.pointer (some ⟨E,0,none⟩)] 106)
    have hx6:=World.alloc_heap_new W5 (.cells #[.pointer (some ⟨E,0,none⟩)] 106)
    have HA6:Hid (AS b w ph l o E Ev (W5.alloc (.cells #[.pointer (some ⟨E,0,none⟩)] 106))):=HA5.o.grown (r:=none) (zdc hTb) (fun g e=>by cases e) hM
    have HI6:Hid ((W5.alloc (.cells #[.pointer (some ⟨E,0,none⟩)] 106)).ownsMap Tryz.prog 3 (unitElem (H:=Unit)) b.M (l.length+1) (zb7 (l++[o]))):=HI5.o.alloc _
    have hT9:=And.intro (zaa hTb hT8.1) (zaa hTb hT8.2)
    have hs5:w.heap.size<=W5.heap.size:=HA5.o.tch.size
    refine hK.o _ _ ⟨fun _=>hT9,fun _=>hT9⟩ ?_
    clear hK K' HA5 HI5 hT8 hTb
    generalize W5.alloc (.cells #[.pointer (some ⟨E,0,none⟩)] 106)=W6 at *
    have hrow6:=HROW.o W6 HA6.o
    have hvl6:=HVL.o
    refine za1 7 (by kernel_rfl) rfl (fun K' hK=>?_)
    go_simp
    refine zgt (.slice av q.length cv) (fun j=>if j=l.length then E else b.adr j) q k l.length W5.heap.size _ _ hrow6 hqn (by omega) (by rw[if_pos rfl];exact hx6) (fun e=>by have:=hvl6 _ e;omega) ?_
    intro v7 W7 r1 r2 r3
    have Hf:=HFIN.o k v7 W6 W7 HA6.o HI6.o (by omega) Hall.o (fun _=>Hk1.o) r1 r2 r3
    have hfar: ∀g,w.heap.size<=g->g<W6.heap.size->W7.heap[g]?=W6.heap[g]?:=fun g h1 h2=>r2.block g h2 (fun e=>by have:=hvl6 g e.symm;omega)
    have hT10:W7.cell? ⟨w.heap.size,1,none⟩=some (.int .i64 1)/\W7.cell? ⟨Ev,0,none⟩=some (.pointer (some ⟨E,0,none⟩)):=⟨(World.cell?_of_block (a:=⟨w.heap.size,1,none⟩) (hfar w.heap.size nr (zab hT9.1))).trans hT9.1,(World.cell?_of_block (a:=⟨Ev,0,none⟩) (hfar Ev (Nat.le_of_lt HA6.o.e2) (zab hT9.2))).trans hT9.2⟩
    have hK7:W7.heap[b.K]?=some (.cells #[.slice none 0 0,b.v 1,b.v 2,.map (some b.M)] 149 (0,0)):=(r2.block b.K (lll (HB.o.lt (.inl rfl)) HA6.o.tch.size) (fun e=>HKV.o e.symm)).trans (hcells W6 HA6.o)
    have kc:W7.cell? ⟨b.K,1,none⟩=some (b.v 1):=by rw[cell_of_row _ _ 1 _ _ (0,0) hK7];rfl
    have kf:W7.frozen? ⟨b.K,1,none⟩=false:=by simp[World.frozen?,hK7]
    have hev:(W7.setCell ⟨b.K,1,none⟩ v7).cell? ⟨Ev,0,none⟩=some (.pointer (some ⟨E,0,none⟩)):=(World.cell?_of_block (a:=⟨Ev,0,none⟩) (bhs W7 ⟨b.K,1,none⟩ v7 Ev (by have:=HB.o.lt (.inl rfl);have:=HA6.o.e2;show Ev≠b.K;omega))).trans hT10.2
    obtain ⟨a7,c7,rfl⟩:=zae r1
    refine hK.o _ _ ⟨fun _=>hT10,fun _=>hT10⟩ ?_
    clear hK K' r1 r2 r3 hfar hx6 hrow6 hvl6
    refine U0 (v:=?wsb10) 10 rfl (by kernel_rfl) (fun _ _ _ h=>h) (Or.inl ⟨by rfl,?hwsb10⟩) ⟨fun _=>hT10,fun _=>hT10⟩ ?_
    case hwsb10=>(rintro w' _;go_simp;with_reducible rfl)
    refine za1 11 (by kernel_rfl) rfl (fun K' hK=>?_)
    go_simp
    refine hK.o _ _ ⟨(fun h=>absurd h (by decide)),(fun h=>absurd h (by decide))⟩ ?_
    clear hK K'
    refine zch (by kernel_rfl) ?_
    rw[e] at Hf
    have HF:Hid _:=Hf
    clear Hf hT10 hT9 kc kf
    go_wp2_with fail
    exact HF.o
  .have ei:(o.side:Int)=2:=by omega
   rw[e] at ck
   go_wp2_with fail
   go_quiet (fail)
   go_wp2_with fail
   have HA3:Hid (AS b w ph l o E Ev (W2.drewN nq)):=HA2.o.grown (r:=none) (zdc (below_drewN br _)) (fun g e=>by cases e) hM
   have HI3:Hid ((W2.drewN nq).ownsMap Tryz.prog 3 (unitElem (H:=Unit)) b.M (l.length+1) (zb7 (l++[o]))):=zcj HI2.o rfl
   clear HA2 HI2 y1 ck
   generalize W2.drewN nq=W3 at *
   have hrow3:=HROW.o W3 HA3.o
   rw[HPT.o] at hrow3
   refine zf0 (.slice av q.length cv) b.adr q 185 #[.pointer (some ⟨Ev,0,none⟩)] (enters_of Tryz.func185 (by kernel_rfl) rfl) (fun j=>!tkP (nth l j) (lim o)) _ _ hrow3 hqn (HPRED.o W3 HA3.o) ?_ ?_
   .intro W4 hg4 hall
    have HA4:=zl (HA3.o.grown hg4 (fun g e=>by cases e) hM)
    have HI4:Hid (W4.ownsMap Tryz.prog 3 (unitElem (H:=Unit)) b.M (l.length+1) (zb7 (l++[o]))):=zcj HI3.o (hg4.block b.M HI3.o.lt (fun e=>by cases e))
    have Hall:=zl hall
    clear hall hg4 HA3 HI3 hrow3
    go_wp2_with fail
    obtain ⟨W5,hW5⟩: ∃W5,W4.drew=W5:=⟨_,rfl⟩
    have HA5:Hid (AS b w ph l o E Ev W5):=by rw[←hW5];exact HA4.o.grown (r:=none) (zdc br.drew) (fun g e=>by cases e) hM
    have HI5:Hid (W5.ownsMap Tryz.prog 3 (unitElem (H:=Unit)) b.M (l.length+1) (zb7 (l++[o]))):=by rw[←hW5];exact HI4.o
    have hT8:W5.cell? ⟨w.heap.size,1,none⟩=some (.int .i64 2)/\W5.cell? ⟨Ev,0,none⟩=some (.pointer (some ⟨E,0,none⟩)):=⟨by rw[cell_of_row _ _ 1 _ _ (0,0) HA5.o.box,←ei];rfl,HA5.o.vv.cell⟩
    refine zbq 11 11 (fun W=>W.cell? ⟨w.heap.size,1,none⟩=some (.int .i64 2)/\W.cell? ⟨Ev,0,none⟩=some (.pointer (some ⟨E,0,none⟩))) (fun W=>W.cell? ⟨w.heap.size,1,none⟩=some (.int .i64 2)/\W.cell? ⟨Ev,0,none⟩=some (.pointer (some ⟨E,0,none⟩))) zco ?_
    rw[hW5]
    clear hW5 HA4 HI4
    refine U0 (v:=?wta0) 0 rfl (by kernel_rfl) (fun _ _ _ h=>h) (Or.inl ⟨by rfl,?hwta0⟩) ⟨fun _=>hT8,fun _=>hT8⟩ ?_
    case hwta0=>(rintro w' _;go_simp;with_reducible rfl)
    refine U0 (v:=?wta1) 1 rfl (by kernel_rfl) (fun _ _ _ h=>h) (Or.inl ⟨by rfl,?hwta1⟩) ⟨fun _=>hT8,fun _=>hT8⟩ ?_
    case hwta1=>(rintro w' _;go_simp;with_reducible rfl)
    refine zc3 (v:=?wta2) 2 rfl (by kernel_rfl) (by kernel_rfl) (by kernel_rfl) (by kernel_rfl) (by kernel_rfl) (by kernel_rfl) (fun _ _ _ h=>h) (Or.inl ⟨by rfl,?hwta2⟩) ⟨fun _=>hT8,fun _=>hT8⟩ ?_
    case hwta2=>(rintro w' ⟨z1,z2⟩;go_simp;with_reducible rfl)
    refine U0 (v:=?wta3) 3 rfl (by kernel_rfl) (fun _ _ _ h=>h) (Or.inl ⟨by rfl,?hwta3⟩) ⟨fun _=>hT8,fun _=>hT8⟩ ?_
    case hwta3=>(rintro w' _;go_simp;with_reducible rfl)
    refine U0 (v:=?wta4) 4 rfl (by kernel_rfl) (fun _ _ _ h=>h) (Or.inl ⟨by rfl,?hwta4⟩) ⟨fun _=>hT8,fun _=>hT8⟩ ?_
    case hwta4=>(rintro w' _;go_simp;with_reducible rfl)
    refine zc3 (v:=?wta5) 5 rfl (by kernel_rfl) (by kernel_rfl) (by kernel_rfl) (by kernel_rfl) (by kernel_rfl) (by kernel_rfl) (fun _ _ _ h=>h) (Or.inl ⟨by rfl,?hwta5⟩) ⟨fun _=>hT8,fun _=>hT8⟩ ?_
    case hwta5=>(rintro w' ⟨z1,z2⟩;go_simp;with_reducible rfl)
    refine U0 (v:=?wta8) 8 rfl (by kernel_rfl) (fun _ _ _ h=>h) (Or.inl ⟨by rfl,?hwta8⟩) ⟨fun _=>hT8,fun _=>hT8⟩ ?_
    case hwta8=>(rintro w' _;go_simp;with_reducible rfl)
    refine U0 (v:=?wta9) 9 rfl (by kernel_rfl) (fun _ _ _ h=>h) (Or.inl ⟨by rfl,?hwta9⟩) ⟨fun _=>hT8,fun _=>hT8⟩ ?_
    case hwta9=>(rintro w' _;go_simp;with_reducible rfl)
    refine za1 6 (by kernel_rfl) rfl (fun K' hK=>?_)
    go_simp
    have hTb:=zac W5 (.cells #[.pointer (some ⟨E,0,none⟩)] 106)
    have hx6:=World.alloc_heap_new W5 (.cells #[.pointer (some ⟨E,0,none⟩)] 106)
    have HA6:Hid (AS b w ph l o E Ev (W5.alloc (.cells #[.pointer (some ⟨E,0,none⟩)] 106))):=HA5.o.grown (r:=none) (zdc hTb) (fun g e=>by cases e) hM
    have HI6:Hid ((W5.alloc (.cells #[.pointer (some ⟨E,0,none⟩)] 106)).ownsMap Tryz.prog 3 (unitElem (H:=Unit)) b.M (l.length+1) (zb7 (l++[o]))):=HI5.o.alloc _
    have hT9:=And.intro (zaa hTb hT8.1) (zaa hTb hT8.2)
    have hs5:w.heap.size<=W5.heap.size:=HA5.o.tch.size
    refine hK.o _ _ ⟨fun _=>hT9,fun _=>hT9⟩ ?_
    clear hK K' HA5 HI5 hT8 hTb
    generalize W5.alloc (.cells #[.pointer (some ⟨E,0,none⟩)] 106)=W6 at *
    have hrow6:=HROW.o W6 HA6.o
    have hvl6:=HVL.o
    refine za1 7 (by kernel_rfl) rfl (fun K' hK=>?_)
    go_simp
    refine zgt (.slice av q.length cv) (fun j=>if j=l.length then E else b.adr j) q q.length l.length W5.heap.size _ _ hrow6 hqn (by omega) (by rw[if_pos rfl];exact hx6) (fun e=>by have:=hvl6 _ e;omega) ?_
    intro v7 W7 r1 r2 r3
    have Hf:=HFIN.o q.length v7 W6 W7 HA6.o HI6.o (by omega) Hall.o (fun hh=>absurd hh (by omega)) r1 r2 r3
    have hfar: ∀g,w.heap.size<=g->g<W6.heap.size->W7.heap[g]?=W6.heap[g]?:=fun g h1 h2=>r2.block g h2 (fun e=>by have:=hvl6 g e.symm;omega)
    have hT10:W7.cell? ⟨w.heap.size,1,none⟩=some (.int .i64 2)/\W7.cell? ⟨Ev,0,none⟩=some (.pointer (some ⟨E,0,none⟩)):=⟨(World.cell?_of_block (a:=⟨w.heap.size,1,none⟩) (hfar w.heap.size nr (zab hT9.1))).trans hT9.1,(World.cell?_of_block (a:=⟨Ev,0,none⟩) (hfar Ev (Nat.le_of_lt HA6.o.e2) (zab hT9.2))).trans hT9.2⟩
    have hK7:W7.heap[b.K]?=some (.cells #[.slice none 0 0,b.v 1,b.v 2,.map (some b.M)] 149 (0,0)):=(r2.block b.K (lll (HB.o.lt (.inl rfl)) HA6.o.tch.size) (fun e=>HKV.o e.symm)).trans (hcells W6 HA6.o)
    have kc:W7.cell? ⟨b.K,2,none⟩=some (b.v 2):=by rw[cell_of_row _ _ 2 _ _ (0,0) hK7];rfl
    have kf:W7.frozen? ⟨b.K,2,none⟩=false:=by simp[World.frozen?,hK7]
    have hev:(W7.setCell ⟨b.K,2,none⟩ v7).cell? ⟨Ev,0,none⟩=some (.pointer (some ⟨E,0,none⟩)):=(World.cell?_of_block (a:=⟨Ev,0,none⟩) (bhs W7 ⟨b.K,2,none⟩ v7 Ev (by have:=HB.o.lt (.inl rfl);have:=HA6.o.e2;show Ev≠b.K;omega))).trans hT10.2
    obtain ⟨a7,c7,rfl⟩:=zae r1
    refine hK.o _ _ ⟨fun _=>hT10,fun _=>hT10⟩ ?_
    clear hK K' r1 r2 r3 hfar hx6 hrow6 hvl6
    refine U0 (v:=?wta10) 10 rfl (by kernel_rfl) (fun _ _ _ h=>h) (Or.inl ⟨by rfl,?hwta10⟩) ⟨fun _=>hT10,fun _=>hT10⟩ ?_
    case hwta10=>(rintro w' _;go_simp;with_reducible rfl)
    refine za1 11 (by kernel_rfl) rfl (fun K' hK=>?_)
    go_simp
    refine hK.o _ _ ⟨(fun h=>absurd h (by decide)),(fun h=>absurd h (by decide))⟩ ?_
    clear hK K'
    refine zch (by kernel_rfl) ?_
    rw[e] at Hf
    have HF:Hid _:=Hf
    clear Hf hT10 hT9 kc kf
    go_wp2_with fail
    exact HF.o
   .intro k W4 hg4 hkl hall hk1
    have HA4:=zl (HA3.o.grown hg4 (fun g e=>by cases e) hM)
    have HI4:Hid (W4.ownsMap Tryz.prog 3 (unitElem (H:=Unit)) b.M (l.length+1) (zb7 (l++[o]))):=zcj HI3.o (hg4.block b.M HI3.o.lt (fun e=>by cases e))
    have Hall:=zl hall
    have Hk1:=zl hk1
    clear hall hk1 hg4 HA3 HI3 hrow3
    go_wp2_with fail
    obtain ⟨W5,hW5⟩: ∃W5,W4.drew=W5:=⟨_,rfl⟩
    have HA5:Hid (AS b w ph l o E Ev W5):=by rw[←hW5];exact HA4.o.grown (r:=none) (zdc br.drew) (fun g e=>by cases e) hM
    have HI5:Hid (W5.ownsMap Tryz.prog 3 (unitElem (H:=Unit)) b.M (l.length+1) (zb7 (l++[o]))):=by rw[←hW5];exact HI4.o
    have hT8:W5.cell? ⟨w.heap.size,1,none⟩=some (.int .i64 2)/\W5.cell? ⟨Ev,0,none⟩=some (.pointer (some ⟨E,0,none⟩)):=⟨by rw[cell_of_row _ _ 1 _ _ (0,0) HA5.o.box,←ei];rfl,HA5.o.vv.cell⟩
    refine zbq 11 11 (fun W=>W.cell? ⟨w.heap.size,1,none⟩=some (.int .i64 2)/\W.cell? ⟨Ev,0,none⟩=some (.pointer (some ⟨E,0,none⟩))) (fun W=>W.cell? ⟨w.heap.size,1,none⟩=some (.int .i64 2)/\W.cell? ⟨Ev,0,none⟩=some (.pointer (some ⟨E,0,none⟩))) zco ?_
    rw[hW5]
    clear hW5 HA4 HI4
    refine U0 (v:=?wtb0) 0 rfl (by kernel_rfl) (fun _ _ _ h=>h) (Or.inl ⟨by rfl,?hwtb0⟩) ⟨fun _=>hT8,fun _=>hT8⟩ ?_
    case hwtb0=>(rintro w' _;go_simp;with_reducible rfl)
    refine U0 (v:=?wtb1) 1 rfl (by kernel_rfl) (fun _ _ _ h=>h) (Or.inl ⟨by rfl,?hwtb1⟩) ⟨fun _=>hT8,fun _=>hT8⟩ ?_
    case hwtb1=>(rintro w' _;go_simp;with_reducible rfl)
    refine zc3 (v:=?wtb2) 2 rfl (by kernel_rfl) (by kernel_rfl) (by kernel_rfl) (by kernel_rfl) (by kernel_rfl) (by kernel_rfl) (fun _ _ _ h=>h) (Or.inl ⟨by rfl,?hwtb2⟩) ⟨fun _=>hT8,fun _=>hT8⟩ ?_
    case hwtb2=>(rintro w' ⟨z1,z2⟩;go_simp;with_reducible rfl)
    refine U0 (v:=?wtb3) 3 rfl (by kernel_rfl) (fun _ _ _ h=>h) (Or.inl ⟨by rfl,?hwtb3⟩) ⟨fun _=>hT8,fun _=>hT8⟩ ?_
    case hwtb3=>(rintro w' _;go_simp;with_reducible rfl)
    refine U0 (v:=?wtb4) 4 rfl (by kernel_rfl) (fun _ _ _ h=>h) (Or.inl ⟨by rfl,?hwtb4⟩) ⟨fun _=>hT8,fun _=>hT8⟩ ?_
    case hwtb4=>(rintro w' _;go_simp;with_reducible rfl)
    refine zc3 (v:=?wtb5) 5 rfl (by kernel_rfl) (by kernel_rfl) (by kernel_rfl) (by kernel_rfl) (by kernel_rfl) (by kernel_rfl) (fun _ _ _ h=>h) (Or.inl ⟨by rfl,?hwtb5⟩) ⟨fun _=>hT8,fun _=>hT8⟩ ?_
    case hwtb5=>(rintro w' ⟨z1,z2⟩;go_simp;with_reducible rfl)
    refine U0 (v:=?wtb8) 8 rfl (by kernel_rfl) (fun _ _ _ h=>h) (Or.inl ⟨by rfl,?hwtb8⟩) ⟨fun _=>hT8,fun _=>hT8⟩ ?_
    case hwtb8=>(rintro w' _;go_simp;with_reducible rfl)
    refine U0 (v:=?wtb9) 9 rfl (by kernel_rfl) (fun _ _ _ h=>h) (Or.inl ⟨by rfl,?hwtb9⟩) ⟨fun _=>hT8,fun _=>hT8⟩ ?_
    case hwtb9=>(rintro w' _;go_simp;with_reducible rfl)
    refine za1 6 (by kernel_rfl) rfl (fun K' hK=>?_)
    go_simp
    have hTb:=zac W5 (.cells #[.pointer (some ⟨E,0,none⟩)] 106)
    have hx6:=World.alloc_heap_new W5 (.cells #[.pointer (some ⟨E,0,none⟩)] 106)
    have HA6:Hid (AS b w ph l o E Ev (W5.alloc (.cells #[.pointer (some ⟨E,0,none⟩)] 106))):=HA5.o.grown (r:=none) (zdc hTb) (fun g e=>by cases e) hM
    have HI6:Hid ((W5.alloc (.cells #[.pointer (some ⟨E,0,none⟩)] 106)).ownsMap Tryz.prog 3 (unitElem (H:=Unit)) b.M (l.length+1) (zb7 (l++[o]))):=HI5.o.alloc _
    have hT9:=And.intro (zaa hTb hT8.1) (zaa hTb hT8.2)
    have hs5:w.heap.size<=W5.heap.size:=HA5.o.tch.size
    refine hK.o _ _ ⟨fun _=>hT9,fun _=>hT9⟩ ?_
    clear hK K' HA5 HI5 hT8 hTb
    generalize W5.alloc (.cells #[.pointer (some ⟨E,0,none⟩)] 106)=W6 at *
    have hrow6:=HROW.o W6 HA6.o
    have hvl6:=HVL.o
    refine za1 7 (by kernel_rfl) rfl (fun K' hK=>?_)
    go_simp
    refine zgt (.slice av q.length cv) (fun j=>if j=l.length then E else b.adr j) q k l.length W5.heap.size _ _ hrow6 hqn (by omega) (by rw[if_pos rfl];exact hx6) (fun e=>by have:=hvl6 _ e;omega) ?_
    intro v7 W7 r1 r2 r3
    have Hf:=HFIN.o k v7 W6 W7 HA6.o HI6.o (by omega) Hall.o (fun _=>Hk1.o) r1 r2 r3
    have hfar: ∀g,w.heap.size<=g->g<W6.heap.size->W7.heap[g]?=W6.heap[g]?:=fun g h1 h2=>r2.block g h2 (fun e=>by have:=hvl6 g e.symm;omega)
    have hT10:W7.cell? ⟨w.heap.size,1,none⟩=some (.int .i64 2)/\W7.cell? ⟨Ev,0,none⟩=some (.pointer (some ⟨E,0,none⟩)):=⟨(World.cell?_of_block (a:=⟨w.heap.size,1,none⟩) (hfar w.heap.size nr (zab hT9.1))).trans hT9.1,(World.cell?_of_block (a:=⟨Ev,0,none⟩) (hfar Ev (Nat.le_of_lt HA6.o.e2) (zab hT9.2))).trans hT9.2⟩
    have hK7:W7.heap[b.K]?=some (.cells #[.slice none 0 0,b.v 1,b.v 2,.map (some b.M)] 149 (0,0)):=(r2.block b.K (lll (HB.o.lt (.inl rfl)) HA6.o.tch.size) (fun e=>HKV.o e.symm)).trans (hcells W6 HA6.o)
    have kc:W7.cell? ⟨b.K,2,none⟩=some (b.v 2):=by rw[cell_of_row _ _ 2 _ _ (0,0) hK7];rfl
    have kf:W7.frozen? ⟨b.K,2,none⟩=false:=by simp[World.frozen?,hK7]
    have hev:(W7.setCell ⟨b.K,2,none⟩ v7).cell? ⟨Ev,0,none⟩=some (.pointer (some ⟨E,0,none⟩)):=(World.cell?_of_block (a:=⟨Ev,0,none⟩) (bhs W7 ⟨b.K,2,none⟩ v7 Ev (by have:=HB.o.lt (.inl rfl);have:=HA6.o.e2;show Ev≠b.K;omega))).trans hT10.2
    obtain ⟨a7,c7,rfl⟩:=zae r1
    refine hK.o _ _ ⟨fun _=>hT10,fun _=>hT10⟩ ?_
    clear hK K' r1 r2 r3 hfar hx6 hrow6 hvl6
    refine U0 (v:=?wtb10) 10 rfl (by kernel_rfl) (fun _ _ _ h=>h) (Or.inl ⟨by rfl,?hwtb10⟩) ⟨fun _=>hT10,fun _=>hT10⟩ ?_
    case hwtb10=>(rintro w' _;go_simp;with_reducible rfl)
    refine za1 11 (by kernel_rfl) rfl (fun K' hK=>?_)
    go_simp
    refine hK.o _ _ ⟨(fun h=>absurd h (by decide)),(fun h=>absurd h (by decide))⟩ ?_
    clear hK K'
    refine zch (by kernel_rfl) ?_
    rw[e] at Hf
    have HF:Hid _:=Hf
    clear Hf hT10 hT9 kc kf
    go_wp2_with fail
    exact HF.o
 clear hKr
 have b0:=cell_of_row _ _ 0 _ _ (0,0) hbox
 have b1:=cell_of_row _ _ 1 _ _ (0,0) hbox
 have b2:=cell_of_row _ _ 2 _ _ (0,0) hbox
 have b3:=cell_of_row _ _ 3 _ _ (0,0) hbox
 have b4:=cell_of_row _ _ 4 _ _ (0,0) hbox
 have b5:=cell_of_row _ _ 5 _ _ (0,0) hbox
 refine zbq 9 9 (fun W=>(W.cell? ⟨w.heap.size,0,none⟩=some (.int .i64 (o.id:Nat))/\W.cell? ⟨w.heap.size,1,none⟩=some (.int .i64 (o.side:Nat))/\W.cell? ⟨w.heap.size,2,none⟩=some (.int .i64 (o.typ:Nat))/\W.cell? ⟨w.heap.size,3,none⟩=some (.int .i64 (o.price:Nat))/\W.cell? ⟨w.heap.size,4,none⟩=some (.int .i64 (o.rest:Nat))/\W.cell? ⟨w.heap.size,5,none⟩=some (.bool (wt ph o)))/\W.cell? ⟨b.K,3,none⟩=some (.map (some b.M))/\W.ownsMap Tryz.prog 3 (unitElem (H:=Unit)) b.M l.length (zb7 l)) (fun _=>True) zco ?_
 have hW0s:(w.alloc (.cells #[.int .i64 (o.id:Nat),.int .i64 (o.side:Nat),.int .i64 (o.typ:Nat),.int .i64 (o.price:Nat),.int .i64 (o.rest:Nat),.bool (wt ph o)] 89)).drew.heap.size=w.heap.size+1:=by simp[World.drew]
 have hW0b:Below w.heap.size w (w.alloc (.cells #[.int .i64 (o.id:Nat),.int .i64 (o.side:Nat),.int .i64 (o.typ:Nat),.int .i64 (o.price:Nat),.int .i64 (o.rest:Nat),.bool (wt ph o)] 89)).drew:=hb0.drew
 have hbox':(w.alloc (.cells #[.int .i64 (o.id:Nat),.int .i64 (o.side:Nat),.int .i64 (o.typ:Nat),.int .i64 (o.price:Nat),.int .i64 (o.rest:Nat),.bool (wt ph o)] 89)).drew.heap[w.heap.size]?=some (.cells #[.int .i64 (o.id:Nat),.int .i64 (o.side:Nat),.int .i64 (o.typ:Nat),.int .i64 (o.price:Nat),.int .i64 (o.rest:Nat),.bool (wt ph o)] 89 (0,0)):=hbox
 have hT:((w.alloc (.cells #[.int .i64 (o.id:Nat),.int .i64 (o.side:Nat),.int .i64 (o.typ:Nat),.int .i64 (o.price:Nat),.int .i64 (o.rest:Nat),.bool (wt ph o)] 89)).drew.cell? ⟨w.heap.size,0,none⟩=some (.int .i64 (o.id:Nat))/\(w.alloc (.cells #[.int .i64 (o.id:Nat),.int .i64 (o.side:Nat),.int .i64 (o.typ:Nat),.int .i64 (o.price:Nat),.int .i64 (o.rest:Nat),.bool (wt ph o)] 89)).drew.cell? ⟨w.heap.size,1,none⟩=some (.int .i64 (o.side:Nat))/\(w.alloc (.cells #[.int .i64 (o.id:Nat),.int .i64 (o.side:Nat),.int .i64 (o.typ:Nat),.int .i64 (o.price:Nat),.int .i64 (o.rest:Nat),.bool (wt ph o)] 89)).drew.cell? ⟨w.heap.size,2,none⟩=some (.int .i64 (o.typ:Nat))/\(w.alloc (.cells #[.int .i64 (o.id:Nat),.int .i64 (o.side:Nat),.int .i64 (o.typ:Nat),.int .i64 (o.price:Nat),.int .i64 (o.rest:Nat),.bool (wt ph o)] 89)).drew.cell? ⟨w.heap.size,3,none⟩=some (.int .i64 (o.price:Nat))/\(w.alloc (.cells #[.int .i64 (o.id:Nat),.int .i64 (o.side:Nat),.int .i64 (o.typ:Nat),.int .i64 (o.price:Nat),.int .i64 (o.rest:Nat),.bool (wt ph o)] 89)).drew.cell? ⟨w.heap.size,4,none⟩=some (.int .i64 (o.rest:Nat))/\(w.alloc (.cells #[.int .i64 (o.id:Nat),.int .i64 (o.side:Nat),.int .i64 (o.typ:Nat),.int .i64 (o.price:Nat),.int .i64 (o.rest:Nat),.bool (wt ph o)] 89)).drew.cell? ⟨w.heap.size,5,none⟩=some (.bool (wt ph o)))/\(w.alloc (.cells #[.int .i64 (o.id:Nat),.int .i64 (o.side:Nat),.int .i64 (o.typ:Nat),.int .i64 (o.price:Nat),.int .i64 (o.rest:Nat),.bool (wt ph o)] 89)).drew.cell? ⟨b.K,3,none⟩=some (.map (some b.M))/\(w.alloc (.cells #[.int .i64 (o.id:Nat),.int .i64 (o.side:Nat),.int .i64 (o.typ:Nat),.int .i64 (o.price:Nat),.int .i64 (o.rest:Nat),.bool (wt ph o)] 89)).drew.ownsMap Tryz.prog 3 (unitElem (H:=Unit)) b.M l.length (zb7 l):=⟨⟨b0,b1,b2,b3,b4,b5⟩,c3,hids0⟩
 clear b0 b1 b2 b3 b4 b5 c3 hbox hb0
 refine U1 (v:=?v0) 0 rfl (by kernel_rfl) (fun _ _ _ h=>h) (Or.inl ⟨by rfl,?hy0⟩) ⟨fun _=>hT,fun _=>trivial⟩ ?_
 case hy0=>(rintro w' ⟨⟨⟨z0,z1,z2,z3,z4,z5⟩,z6,z7⟩,_⟩;go_simp;with_reducible rfl)
 refine U0 (v:=?v1) 1 rfl (by kernel_rfl) (fun _ _ _ h=>h) (Or.inl ⟨by rfl,?hy1⟩) ⟨fun _=>hT,fun _=>trivial⟩ ?_
 case hy1=>(rintro w' _;go_simp;with_reducible rfl)
 refine U0 (v:=?v2) 2 rfl (by kernel_rfl) (fun _ _ _ h=>h) (Or.inl ⟨by rfl,?hy2⟩) ⟨fun _=>hT,fun _=>trivial⟩ ?_
 case hy2=>(rintro w' _;go_simp;with_reducible rfl)
 refine U0 (v:=?v3) 3 rfl (by kernel_rfl) (fun _ _ _ h=>h) (Or.inl ⟨by rfl,?hy3⟩) ⟨fun _=>hT,fun _=>trivial⟩ ?_
 case hy3=>(rintro w' _;go_simp;with_reducible rfl)
 refine U1 (v:=?v4) 4 rfl (by kernel_rfl) (fun _ _ _ h=>h) (Or.inl ⟨by rfl,?hy4⟩) ⟨fun _=>hT,fun _=>trivial⟩ ?_
 case hy4=>(rintro w' ⟨⟨⟨z0,z1,z2,z3,z4,z5⟩,z6,z7⟩,_⟩;go_simp;with_reducible rfl)
 refine U1 (v:=?v5) 5 rfl (by kernel_rfl) (fun _ _ _ h=>h) (Or.inl ⟨by rfl,?hy5⟩) ⟨fun _=>hT,fun _=>trivial⟩ ?_
 case hy5=>(rintro w' ⟨⟨⟨z0,z1,z2,z3,z4,z5⟩,z6,z7⟩,_⟩;have hz:=hlen _ z7;go_simp;with_reducible rfl)
 refine U0 (v:=?v6) 6 rfl (by kernel_rfl) (fun _ _ _ h=>h) (Or.inl ⟨by rfl,?hy6⟩) ⟨fun _=>hT,fun _=>trivial⟩ ?_
 case hy6=>(rintro w' _;go_simp;with_reducible rfl)
 have hTx: ∀(A:World) (ob:Obj),((A.cell? ⟨w.heap.size,0,none⟩=some (.int .i64 (o.id:Nat))/\A.cell? ⟨w.heap.size,1,none⟩=some (.int .i64 (o.side:Nat))/\A.cell? ⟨w.heap.size,2,none⟩=some (.int .i64 (o.typ:Nat))/\A.cell? ⟨w.heap.size,3,none⟩=some (.int .i64 (o.price:Nat))/\A.cell? ⟨w.heap.size,4,none⟩=some (.int .i64 (o.rest:Nat))/\A.cell? ⟨w.heap.size,5,none⟩=some (.bool (wt ph o)))/\A.cell? ⟨b.K,3,none⟩=some (.map (some b.M))/\A.ownsMap Tryz.prog 3 (unitElem (H:=Unit)) b.M l.length (zb7 l))->(((A.alloc ob).cell? ⟨w.heap.size,0,none⟩=some (.int .i64 (o.id:Nat))/\(A.alloc ob).cell? ⟨w.heap.size,1,none⟩=some (.int .i64 (o.side:Nat))/\(A.alloc ob).cell? ⟨w.heap.size,2,none⟩=some (.int .i64 (o.typ:Nat))/\(A.alloc ob).cell? ⟨w.heap.size,3,none⟩=some (.int .i64 (o.price:Nat))/\(A.alloc ob).cell? ⟨w.heap.size,4,none⟩=some (.int .i64 (o.rest:Nat))/\(A.alloc ob).cell? ⟨w.heap.size,5,none⟩=some (.bool (wt ph o)))/\(A.alloc ob).cell? ⟨b.K,3,none⟩=some (.map (some b.M))/\(A.alloc ob).ownsMap Tryz.prog 3 (unitElem (H:=Unit)) b.M l.length (zb7 l)):=by
  rintro A ob ⟨⟨z0,z1,z2,z3,z4,z5⟩,z6,z7⟩
  have hb:=zac A ob
  exact⟨⟨zaa hb z0,zaa hb z1,zaa hb z2,zaa hb z3,zaa hb z4,zaa hb z5⟩,zaa hb z6,z7.alloc ob⟩
 have hids:=hT.2.2
 clear hids0
 generalize (w.alloc (.cells #[.int .i64 (o.id:Nat),.int .i64 (o.side:Nat),.int .i64 (o.typ:Nat),.int .i64 (o.price:Nat),.int .i64 (o.rest:Nat),.bool (wt ph o)] 89)).drew=W0 at *
 have HT:Hid _:=hT
 clear hT
 refine U_two 7 8 (by kernel_rfl) rfl rfl (fun K' hK=>?_) (fun K' hK=>?_)
 .go_simp
  refine hK.o _ _ ⟨fun _=>hTx _ _ HT.o,fun _=>trivial⟩ ?_
  clear hK K'
  refine za1 8 (by kernel_rfl) rfl (fun K' hK=>?_)
  go_simp
  refine hK.o _ _ ⟨fun _=>hTx _ _ (hTx _ _ HT.o),fun _=>trivial⟩ ?_
  clear hK K'
  have hv:=Vb.new (W0.alloc (.cells #[.int .i64 (o.id:Nat),.int .i64 (o.side:Nat),.int .i64 (o.typ:Nat),.int .i64 (o.price:Nat),.int .i64 (o.rest:Nat),.bool (wt ph o),.int .i64 (l.length:Nat)] 108)) (.pointer none) 106
  rw[World.size_alloc,hW0s] at hv
  have hob:=World.alloc_heap_new W0 (.cells #[.int .i64 (o.id:Nat),.int .i64 (o.side:Nat),.int .i64 (o.typ:Nat),.int .i64 (o.price:Nat),.int .i64 (o.rest:Nat),.bool (wt ph o),.int .i64 (l.length:Nat)] 108)
  rw[hW0s] at hob
  have hE:OB ((W0.alloc (.cells #[.int .i64 (o.id:Nat),.int .i64 (o.side:Nat),.int .i64 (o.typ:Nat),.int .i64 (o.price:Nat),.int .i64 (o.rest:Nat),.bool (wt ph o),.int .i64 (l.length:Nat)] 108)).alloc (.cells #[.pointer none] 106)) (w.heap.size+1) o (wt ph o) l.length:=zau (zac _ _) hob
  have hbx:=(zac (W0.alloc (.cells #[.int .i64 (o.id:Nat),.int .i64 (o.side:Nat),.int .i64 (o.typ:Nat),.int .i64 (o.price:Nat),.int .i64 (o.rest:Nat),.bool (wt ph o),.int .i64 (l.length:Nat)] 108)) (.cells #[.pointer none] 106)).block w.heap.size (by rw[World.size_alloc,hW0s];omega)
  rw[(zac W0 (.cells #[.int .i64 (o.id:Nat),.int .i64 (o.side:Nat),.int .i64 (o.typ:Nat),.int .i64 (o.price:Nat),.int .i64 (o.rest:Nat),.bool (wt ph o),.int .i64 (l.length:Nat)] 108)).block w.heap.size (by rw[hW0s];omega),hbox'] at hbx
  have hbb:=(hW0b.alloc (o:=(.cells #[.int .i64 (o.id:Nat),.int .i64 (o.side:Nat),.int .i64 (o.typ:Nat),.int .i64 (o.price:Nat),.int .i64 (o.rest:Nat),.bool (wt ph o),.int .i64 (l.length:Nat)] 108)) (by rw[hW0s];omega)).alloc (o:=(.cells #[.pointer none] 106)) (by rw[World.size_alloc,hW0s];omega)
  have hii:=(hids.alloc (.cells #[.int .i64 (o.id:Nat),.int .i64 (o.side:Nat),.int .i64 (o.typ:Nat),.int .i64 (o.price:Nat),.int .i64 (o.rest:Nat),.bool (wt ph o),.int .i64 (l.length:Nat)] 108)).alloc (.cells #[.pointer none] 106)
  clear hob
  generalize (W0.alloc (.cells #[.int .i64 (o.id:Nat),.int .i64 (o.side:Nat),.int .i64 (o.typ:Nat),.int .i64 (o.price:Nat),.int .i64 (o.rest:Nat),.bool (wt ph o),.int .i64 (l.length:Nat)] 108)).alloc (.cells #[.pointer none] 106)=W2 at *
  have hc:=hv.cell
  have hf:=hv.free
  refine za1 9 (by kernel_rfl) rfl (fun K' hK=>?_)
  go_simp
  refine hK.o _ _ ⟨(fun h=>absurd h (by decide)),(fun _=>trivial)⟩ ?_
  clear hK K'
  refine zch (by kernel_rfl) ?_
  refine HREST.o (w.heap.size+1) (w.heap.size+1+1) _ ⟨?_,hE.other (by omega),hv.set _,?_,by omega,by omega,by omega⟩ (zcj hii (bhs _ _ _ _ (show b.M≠w.heap.size+1+1 by omega)))
  .rw[bhs _ _ _ _ (show w.heap.size≠w.heap.size+1+1 by omega)]
   exact hbx
  .exact Tch.of (hbb.setCell (p:=⟨w.heap.size+1+1,0,none⟩) (by simp;omega) _)
 .go_simp
  refine hK.o _ _ ⟨fun _=>hTx _ _ HT.o,fun _=>trivial⟩ ?_
  clear hK K'
  refine za1 7 (by kernel_rfl) rfl (fun K' hK=>?_)
  go_simp
  refine hK.o _ _ ⟨fun _=>hTx _ _ (hTx _ _ HT.o),fun _=>trivial⟩ ?_
  clear hK K'
  have hv:=(Vb.new W0 (.pointer none) 106).alloc (.cells #[.int .i64 (o.id:Nat),.int .i64 (o.side:Nat),.int .i64 (o.typ:Nat),.int .i64 (o.price:Nat),.int .i64 (o.rest:Nat),.bool (wt ph o),.int .i64 (l.length:Nat)] 108)
  rw[hW0s] at hv
  have hob:=World.alloc_heap_new (W0.alloc (.cells #[.pointer none] 106)) (.cells #[.int .i64 (o.id:Nat),.int .i64 (o.side:Nat),.int .i64 (o.typ:Nat),.int .i64 (o.price:Nat),.int .i64 (o.rest:Nat),.bool (wt ph o),.int .i64 (l.length:Nat)] 108)
  rw[World.size_alloc,hW0s] at hob
  have hE:OB ((W0.alloc (.cells #[.pointer none] 106)).alloc (.cells #[.int .i64 (o.id:Nat),.int .i64 (o.side:Nat),.int .i64 (o.typ:Nat),.int .i64 (o.price:Nat),.int .i64 (o.rest:Nat),.bool (wt ph o),.int .i64 (l.length:Nat)] 108)) (w.heap.size+1+1) o (wt ph o) l.length:=hob
  have hbx:=(zac (W0.alloc (.cells #[.pointer none] 106)) (.cells #[.int .i64 (o.id:Nat),.int .i64 (o.side:Nat),.int .i64 (o.typ:Nat),.int .i64 (o.price:Nat),.int .i64 (o.rest:Nat),.bool (wt ph o),.int .i64 (l.length:Nat)] 108)).block w.heap.size (by rw[World.size_alloc,hW0s];omega)
  rw[(zac W0 (.cells #[.pointer none] 106)).block w.heap.size (by rw[hW0s];omega),hbox'] at hbx
  have hbb:=(hW0b.alloc (o:=(.cells #[.pointer none] 106)) (by rw[hW0s];omega)).alloc (o:=(.cells #[.int .i64 (o.id:Nat),.int .i64 (o.side:Nat),.int .i64 (o.typ:Nat),.int .i64 (o.price:Nat),.int .i64 (o.rest:Nat),.bool (wt ph o),.int .i64 (l.length:Nat)] 108)) (by rw[World.size_alloc,hW0s];omega)
  have hii:=(hids.alloc (.cells #[.pointer none] 106)).alloc (.cells #[.int .i64 (o.id:Nat),.int .i64 (o.side:Nat),.int .i64 (o.typ:Nat),.int .i64 (o.price:Nat),.int .i64 (o.rest:Nat),.bool (wt ph o),.int .i64 (l.length:Nat)] 108)
  clear hob
  generalize (W0.alloc (.cells #[.pointer none] 106)).alloc (.cells #[.int .i64 (o.id:Nat),.int .i64 (o.side:Nat),.int .i64 (o.typ:Nat),.int .i64 (o.price:Nat),.int .i64 (o.rest:Nat),.bool (wt ph o),.int .i64 (l.length:Nat)] 108)=W2 at *
  have hc:=hv.cell
  have hf:=hv.free
  refine za1 9 (by kernel_rfl) rfl (fun K' hK=>?_)
  go_simp
  refine hK.o _ _ ⟨(fun h=>absurd h (by decide)),(fun _=>trivial)⟩ ?_
  clear hK K'
  refine zch (by kernel_rfl) ?_
  refine HREST.o (w.heap.size+1+1) (w.heap.size+1) _ ⟨?_,hE.other (by omega),hv.set _,?_,by omega,by omega,by omega⟩ (zcj hii (bhs _ _ _ _ (show b.M≠w.heap.size+1 by omega)))
  .rw[bhs _ _ _ _ (show w.heap.size≠w.heap.size+1 by omega)]
   exact hbx
  .exact Tch.of (hbb.setCell (p:=⟨w.heap.size+1,0,none⟩) (by simp) _)
