import Derived.Test.YtmiiejinahnpkaaGreatDoorKr
set_option maxRecDepth 8000
set_option maxHeartbeats 1000000
namespace Go.Proofs.YtmiiejinahnpkaaGreatDoor
section
open Go.RowKit Go.Shelf Go.Lib
theorem paccept_any (P:Nat)(b:Bk)(c:Cf)(m:Mk)(s0 k id sd ty q p t:Nat)(w:World)(R:EW)(h:PS w P b c m s0)(hty:1<=ty/\ty<=4)(hsd:isSd sd)(hid:id<=4294967295)(href:zbc c m ⟨id,sd,ty,p,q⟩=0)(hl:m.all.length<=1048575)(hct:c.total<=1000000000)
  (hR: ∀b' v E w',PS w' P b' c (zbr m ⟨id,sd,ty,p,q⟩) s0->Mv P w b w' b'->Evs w' w.heap.size v E->(∀g,Own P b' g->v.ownBlock≠some g)->outs (zbr m ⟨id,sd,ty,p,q⟩)=outs m++E->E.length<=1048578->R (.returned v) w'):
  Calls Tryz.prog 122 #[.pointer (some ⟨P,0,none⟩),cmv k id sd ty q p t] w R:=by
 have h3:=(zet (c:=c) (m:=m) (o:=⟨id,sd,ty,p,q⟩) hty hsd href).2.2.2.2.2
 have hp:=h.ph
 have:m.phase=0\/m.phase=1\/m.phase=2:=by omega
 rcases this with e|e|e
 .exact paccept0_any P b c m s0 k id sd ty q p t w R h hty hsd hid href hl hct e hR
 .exact paccept1_any P b c m s0 k id sd ty q p t w R h hty hsd hid href hl hct e hR
 .exact paccept2_any P b c m s0 k id sd ty q p t w R h hty hsd hid href hl hct e hR
def zcx (m:Mk) (k id sd ty q p:Nat):Mk:=
 if k=2 then zav m (zas m.all id m.all.length).toNat else if k=3 then ze9 m (zas m.all id m.all.length).toNat q else zbr m ⟨id,sd,ty,p,q⟩
theorem pchange_any (P:Nat)(b:Bk)(c:Cf)(m:Mk)(s0 k id sd ty q p t:Nat)(w:World)(R:EW)(h:PS w P b c m s0)(hk:k=1\/k=2\/k=3)(hty:k=1->1<=ty/\ty<=4)(hsd:k=1->isSd sd)(hid:id<=4294967295)(href:zcv c m k id sd ty q p=0)(hl:m.all.length<=1048575)(hct:c.total<=1000000000)
  (hR: ∀b' v E w',PS w' P b' c (zcx m k id sd ty q p) s0->Mv P w b w' b'->Evs w' w.heap.size v E->(∀g,Own P b' g->v.ownBlock≠some g)->outs (zcx m k id sd ty q p)=outs m++E->E.length<=1048578->R (.returned v) w'):
  Calls Tryz.prog 96 #[.pointer (some ⟨P,0,none⟩),cmv k id sd ty q p t] w R:=by
 have HR:=zl hR
 unfold zcx at HR
 unfold zcv at href
 have HP:=zl h
 have hlP:=h.ltP
 have hb0:=zac w (.cells #[.int .i64 (k:Nat),.int .i64 (id:Nat),.int .i64 (sd:Nat),.int .i64 (ty:Nat),.int .i64 (q:Nat),.int .i64 (p:Nat),.int .i64 (t:Nat)] 113)
 have HPA:=zl (h.ext hb0)
 have Hb0:=zl hb0
 obtain ⟨_,x1,_,_,x4,_,_⟩:=zc9 (World.alloc_heap_new w (.cells #[.int .i64 (k:Nat),.int .i64 (id:Nat),.int .i64 (sd:Nat),.int .i64 (ty:Nat),.int .i64 (q:Nat),.int .i64 (p:Nat),.int .i64 (t:Nat)] 113))
 have c10:=HPA.o.pm.cells 10 (.pointer (some ⟨b.K,0,none⟩)) rfl
 clear hR h hb0
 rcases hk with h1|h2|h3
 .rw[if_pos h1] at href
  simp only[if_neg (show ¬k=2 by omega),if_neg (show ¬k=3 by omega)] at HR
  have hty':=hty h1
  have hsd':=hsd h1
  clear hty hsd c10 x1 x4
  subst h1
  unfold cmv
  go_enter Tryz.func96,Tryz.ntmps96
  go_wp2_with fail
  refine paccept_any P b c m s0 1 id sd ty q p t _ _ HPA.o hty' hsd' hid href hl hct ?_
  intro b' v E w' hps hmv hev hown hou hel
  have hfin:Hid (R (.returned v) w'):=HR.o b' v E w' hps ((Mv.of Hb0.o).trans hmv) (hev.low Hb0.o.size) hown hou hel
  clear hps hmv hev hown hou HPA Hb0
  go_wp2_with fail
  exact hfin.o
 .rw[if_neg (by omega),if_pos h2] at href
  simp only[if_pos h2] at HR
  clear hty hsd
  subst h2
  unfold cmv
  go_enter Tryz.func96,Tryz.ntmps96
  go_wp2_with fail
  have hT:(w.alloc (.cells #[.int .i64 2,.int .i64 (id:Nat),.int .i64 (sd:Nat),.int .i64 (ty:Nat),.int .i64 (q:Nat),.int .i64 (p:Nat),.int .i64 (t:Nat)] 113)).drew.cell? ⟨P,10,none⟩=some (.pointer (some ⟨b.K,0,none⟩))/\(w.alloc (.cells #[.int .i64 2,.int .i64 (id:Nat),.int .i64 (sd:Nat),.int .i64 (ty:Nat),.int .i64 (q:Nat),.int .i64 (p:Nat),.int .i64 (t:Nat)] 113)).drew.cell? ⟨w.heap.size,1,none⟩=some (.int .i64 (id:Nat))/\(w.alloc (.cells #[.int .i64 2,.int .i64 (id:Nat),.int .i64 (sd:Nat),.int .i64 (ty:Nat),.int .i64 (q:Nat),.int .i64 (p:Nat),.int .i64 (t:Nat)] 113)).drew.cell? ⟨w.heap.size,4,none⟩=some (.int .i64 (q:Nat)):=⟨c10,x1,x4⟩
  have HPB:Hid (PS (w.alloc (.cells #[.int .i64 2,.int .i64 (id:Nat),.int .i64 (sd:Nat),.int .i64 (ty:Nat),.int .i64 (q:Nat),.int .i64 (p:Nat),.int .i64 (t:Nat)] 113)).drew P b c m s0):=HPA.o.ext br.drew
  have HbA:=zl (Hb0.o.drew)
  clear c10 x1 x4 HPA Hb0
  obtain ⟨i,hi⟩: ∃i:Nat,zas m.all id m.all.length=i:=by
   rcases zdp m.all id m.all.length with e|⟨i,e,_⟩
   .rw[e] at href
    simp at href
   .exact⟨i,e⟩
  rw[hi] at HR href
  simp only[Int.toNat_natCast] at HR
  have HI:=zl ((HP.o.pv.at_ hi).1)
  have Hi:=zl hi
  clear hi href
  refine zbq 7 10 (fun W=>W.cell? ⟨P,10,none⟩=some (.pointer (some ⟨b.K,0,none⟩))/\W.cell? ⟨w.heap.size,1,none⟩=some (.int .i64 (id:Nat))/\W.cell? ⟨w.heap.size,4,none⟩=some (.int .i64 (q:Nat))) (fun _=>True) zco ?_
  refine U0 (v:=?v0) 0 rfl (by kernel_rfl) (fun _ _ _ h=>h) (Or.inl ⟨by rfl,?hy0⟩) ⟨fun _=>hT,fun _=>trivial⟩ ?_
  case hy0=>(rintro w' _;go_simp;with_reducible rfl)
  refine U0 (v:=?v1) 1 rfl (by kernel_rfl) (fun _ _ _ h=>h) (Or.inl ⟨by rfl,?hy1⟩) ⟨fun _=>hT,fun _=>trivial⟩ ?_
  case hy1=>(rintro w' _;go_simp;with_reducible rfl)
  refine U0 (v:=?v2) 2 rfl (by kernel_rfl) (fun _ _ _ h=>h) (Or.inl ⟨by rfl,?hy2⟩) ⟨fun _=>hT,fun _=>trivial⟩ ?_
  case hy2=>(rintro w' _;go_simp;with_reducible rfl)
  refine U0 (v:=?v3) 3 rfl (by kernel_rfl) (fun _ _ _ h=>h) (Or.inl ⟨by rfl,?hy3⟩) ⟨fun _=>hT,fun _=>trivial⟩ ?_
  case hy3=>(rintro w' _;go_simp;with_reducible rfl)
  refine U1 (v:=?v4) 4 rfl (by kernel_rfl) (fun _ _ _ h=>h) (Or.inl ⟨by rfl,?hy4⟩) ⟨fun _=>hT,fun _=>trivial⟩ ?_
  case hy4=>(rintro w' ⟨⟨z0,z1,z2⟩,_⟩;go_simp;with_reducible rfl)
  refine U0 (v:=?v5) 5 rfl (by kernel_rfl) (fun _ _ _ h=>h) (Or.inl ⟨by rfl,?hy5⟩) ⟨fun _=>hT,fun _=>trivial⟩ ?_
  case hy5=>(rintro w' _;go_simp;with_reducible rfl)
  refine U1 (v:=?v6) 6 rfl (by kernel_rfl) (fun _ _ _ h=>h) (Or.inl ⟨by rfl,?hy6⟩) ⟨fun _=>hT,fun _=>trivial⟩ ?_
  case hy6=>(rintro w' ⟨⟨z0,z1,z2⟩,_⟩;go_simp;with_reducible rfl)
  generalize (w.alloc (.cells #[.int .i64 2,.int .i64 (id:Nat),.int .i64 (sd:Nat),.int .i64 (ty:Nat),.int .i64 (q:Nat),.int .i64 (p:Nat),.int .i64 (t:Nat)] 113)).drew=A at *
  refine za1 7 (by kernel_rfl) rfl (fun K' hK=>?_)
  go_simp
  refine zgs b m m.phase id i _ _ HPB.o.pm.book HP.o.pv Hi.o ?_
  refine hK.o _ _ ⟨fun h=>absurd h (by decide),fun _=>trivial⟩ ?_
  clear hK K'
  refine za1 8 (by kernel_rfl) rfl (fun K' hK=>?_)
  go_simp
  refine zfs P b c m s0 i _ _ HPB.o HI.o ?_
  intro v6 w6 hps6 hv6 ht6'
  have hbf6: ∀g,(b.dropped v6 (fun j=>decide (j=i))).F g->b.F g:=fun g hg=>zbo hv6 hg
  have ht6:Tch b.F A w6:=ht6'.widen fun g hg=>bt_F hg
  refine hK.o _ _ ⟨fun h=>absurd h (by decide),fun _=>trivial⟩ ?_
  clear hK K'
  have hfin0:Hid (∀e,e=zez m i->R (.returned (.slice (some ⟨w6.heap.size,0,none⟩) 1 1)) (w6.alloc (.cells #[.int .i64 (e 0),.int .i64 (e 1),.int .i64 (e 2),.int .i64 (e 3),.int .i64 (e 4),.int .i64 (e 5),.int .i64 (e 6),.int .i64 (e 7),.int .i64 (e 8),.int .i64 (e 9)] 42))):=by
   intro e he
   have hb7:=zac w6 (.cells #[.int .i64 (e 0),.int .i64 (e 1),.int .i64 (e 2),.int .i64 (e 3),.int .i64 (e 4),.int .i64 (e 5),.int .i64 (e 6),.int .i64 (e 7),.int .i64 (e 8),.int .i64 (e 9)] 42)
   have hs6:w.heap.size<=w6.heap.size:=llt HbA.o.size ht6.size
   refine HR.o _ _ [e] _ (hps6.ext hb7) (((Mv.of HbA.o).trans ⟨ht6.own fun g hg=> .inr hg,fun g hg=> .inl (hbf6 g hg)⟩).trans (Mv.of hb7)) ?_ ?_ ?_ (by simp)
   .exact⟨by simp[evcs,evc],.inr ⟨w6.heap.size,1,_,rfl,hs6,World.alloc_heap_new w6 _,nr,by decide,rfl,by simp[evcs,evc,iv,List.range,List.range.loop]⟩⟩
   .intro g hg e'
    have:=hps6.lt hg
    simp only[Value.ownBlock,Option.some.injEq] at e'
    omega
   .rw[zfu,he]
  have hfin:=hfin0.out _ rfl
  clear hfin0 hps6 hbf6 ht6 hT HPB HbA
  generalize zez m i=e at *
  have Hfin:=zl hfin
  clear hfin
  unfold evv
  refine za1 9 (by kernel_rfl) rfl (fun K' hK=>?_)
  go_simp
  refine hK.o _ _ ⟨fun h=>absurd h (by decide),fun _=>trivial⟩ ?_
  clear hK K'
  refine za1 10 (by kernel_rfl) rfl (fun K' hK=>?_)
  go_simp
  refine hK.o _ _ ⟨fun h=>absurd h (by decide),fun h=>absurd h (by decide)⟩ ?_
  clear hK K'
  refine zch (by kernel_rfl) ?_
  go_wp2_with fail
  exact Hfin.o
 .rw[if_neg (by omega),if_neg (by omega),if_pos h3] at href
  simp only[if_neg (show ¬k=2 by omega),if_pos h3] at HR
  clear hty hsd
  subst h3
  unfold cmv
  go_enter Tryz.func96,Tryz.ntmps96
  go_wp2_with fail
  have hT:(w.alloc (.cells #[.int .i64 3,.int .i64 (id:Nat),.int .i64 (sd:Nat),.int .i64 (ty:Nat),.int .i64 (q:Nat),.int .i64 (p:Nat),.int .i64 (t:Nat)] 113)).drew.cell? ⟨P,10,none⟩=some (.pointer (some ⟨b.K,0,none⟩))/\(w.alloc (.cells #[.int .i64 3,.int .i64 (id:Nat),.int .i64 (sd:Nat),.int .i64 (ty:Nat),.int .i64 (q:Nat),.int .i64 (p:Nat),.int .i64 (t:Nat)] 113)).drew.cell? ⟨w.heap.size,1,none⟩=some (.int .i64 (id:Nat))/\(w.alloc (.cells #[.int .i64 3,.int .i64 (id:Nat),.int .i64 (sd:Nat),.int .i64 (ty:Nat),.int .i64 (q:Nat),.int .i64 (p:Nat),.int .i64 (t:Nat)] 113)).drew.cell? ⟨w.heap.size,4,none⟩=some (.int .i64 (q:Nat)):=⟨c10,x1,x4⟩
  have HPB:Hid (PS (w.alloc (.cells #[.int .i64 3,.int .i64 (id:Nat),.int .i64 (sd:Nat),.int .i64 (ty:Nat),.int .i64 (q:Nat),.int .i64 (p:Nat),.int .i64 (t:Nat)] 113)).drew P b c m s0):=HPA.o.ext br.drew
  have HbA:=zl (Hb0.o.drew)
  clear c10 x1 x4 HPA Hb0
  obtain ⟨i,hi⟩: ∃i:Nat,zas m.all id m.all.length=i:=by
   rcases zdp m.all id m.all.length with e|⟨i,e,_⟩
   .rw[e] at href
    simp at href
   .exact⟨i,e⟩
  rw[hi] at HR href
  simp only[Int.toNat_natCast] at HR
  have hq0:0<q:=by
   by_cases e:q=0
   .rw[if_neg (by omega),if_pos e] at href
    cases href
   .omega
  have HI:=zl ((HP.o.pv.at_ hi).1)
  have Hi:=zl hi
  clear hi href
  refine zbq 10 12 (fun W=>W.cell? ⟨P,10,none⟩=some (.pointer (some ⟨b.K,0,none⟩))/\W.cell? ⟨w.heap.size,1,none⟩=some (.int .i64 (id:Nat))/\W.cell? ⟨w.heap.size,4,none⟩=some (.int .i64 (q:Nat))) (fun _=>True) zco ?_
  refine U0 (v:=?uu0) 0 rfl (by kernel_rfl) (fun _ _ _ h=>h) (Or.inl ⟨by rfl,?hz0⟩) ⟨fun _=>hT,fun _=>trivial⟩ ?_
  case hz0=>(rintro w' _;go_simp;with_reducible rfl)
  refine U0 (v:=?uu1) 1 rfl (by kernel_rfl) (fun _ _ _ h=>h) (Or.inl ⟨by rfl,?hz1⟩) ⟨fun _=>hT,fun _=>trivial⟩ ?_
  case hz1=>(rintro w' _;go_simp;with_reducible rfl)
  refine U0 (v:=?uu2) 2 rfl (by kernel_rfl) (fun _ _ _ h=>h) (Or.inl ⟨by rfl,?hz2⟩) ⟨fun _=>hT,fun _=>trivial⟩ ?_
  case hz2=>(rintro w' _;go_simp;with_reducible rfl)
  refine U0 (v:=?uu3) 3 rfl (by kernel_rfl) (fun _ _ _ h=>h) (Or.inl ⟨by rfl,?hz3⟩) ⟨fun _=>hT,fun _=>trivial⟩ ?_
  case hz3=>(rintro w' _;go_simp;with_reducible rfl)
  refine zbt (v:=?uu4) 4 [7,10] rfl (by kernel_rfl) (by kernel_rfl) (by kernel_rfl) (by kernel_rfl) (by kernel_rfl) (by kernel_rfl) (by kernel_rfl) (fun _ _ _ h=>h) (Or.inl ⟨by rfl,?hz4⟩) ⟨fun _=>hT,fun _=>trivial⟩ ?_
  case hz4=>(rintro w' ⟨⟨z0,z1,z2⟩,_⟩;go_simp;with_reducible rfl)
  refine U0 (v:=?uu5) 5 rfl (by kernel_rfl) (fun _ _ _ h=>h) (Or.inl ⟨by rfl,?hz5⟩) ⟨fun _=>hT,fun _=>trivial⟩ ?_
  case hz5=>(rintro w' _;go_simp;with_reducible rfl)
  refine zbt (v:=?uu6) 6 [7,10] rfl (by kernel_rfl) (by kernel_rfl) (by kernel_rfl) (by kernel_rfl) (by kernel_rfl) (by kernel_rfl) (by kernel_rfl) (fun _ _ _ h=>h) (Or.inl ⟨by rfl,?hz6⟩) ⟨fun _=>hT,fun _=>trivial⟩ ?_
  case hz6=>(rintro w' ⟨⟨z0,z1,z2⟩,_⟩;go_simp;with_reducible rfl)
  refine U0 (v:=?uu8) 8 rfl (by kernel_rfl) (fun _ _ _ h=>h) (Or.inl ⟨by rfl,?hz8⟩) ⟨fun _=>hT,fun _=>trivial⟩ ?_
  case hz8=>(rintro w' _;go_simp;with_reducible rfl)
  refine U1 (v:=?uu9) 9 rfl (by kernel_rfl) (fun _ _ _ h=>h) (Or.inl ⟨by rfl,?hz9⟩) ⟨fun _=>hT,fun _=>trivial⟩ ?_
  case hz9=>(rintro w' ⟨⟨z0,z1,z2⟩,_⟩;go_simp;with_reducible rfl)
  generalize (w.alloc (.cells #[.int .i64 3,.int .i64 (id:Nat),.int .i64 (sd:Nat),.int .i64 (ty:Nat),.int .i64 (q:Nat),.int .i64 (p:Nat),.int .i64 (t:Nat)] 113)).drew=A at *
  refine za1 7 (by kernel_rfl) rfl (fun K' hK=>?_)
  go_simp
  refine zgs b m m.phase id i _ _ HPB.o.pm.book HP.o.pv Hi.o ?_
  refine hK.o _ _ ⟨fun _=>hT,fun _=>trivial⟩ ?_
  clear hK K'
  refine za1 10 (by kernel_rfl) rfl (fun K' hK=>?_)
  go_simp
  refine preduce_any P b c m s0 i q _ _ HPB.o HI.o (by omega) ?_
  intro b6 w6 hps6 hbf6 ht6
  refine hK.o _ _ ⟨fun h=>absurd h (by decide),fun _=>trivial⟩ ?_
  clear hK K'
  have hfin0:Hid (∀e,e=redev m i q->R (.returned (.slice (some ⟨w6.heap.size,0,none⟩) 1 1)) (w6.alloc (.cells #[.int .i64 (e 0),.int .i64 (e 1),.int .i64 (e 2),.int .i64 (e 3),.int .i64 (e 4),.int .i64 (e 5),.int .i64 (e 6),.int .i64 (e 7),.int .i64 (e 8),.int .i64 (e 9)] 42))):=by
   intro e he
   have hb7:=zac w6 (.cells #[.int .i64 (e 0),.int .i64 (e 1),.int .i64 (e 2),.int .i64 (e 3),.int .i64 (e 4),.int .i64 (e 5),.int .i64 (e 6),.int .i64 (e 7),.int .i64 (e 8),.int .i64 (e 9)] 42)
   have hs6:w.heap.size<=w6.heap.size:=llt HbA.o.size ht6.size
   refine HR.o _ _ [e] _ (hps6.ext hb7) (((Mv.of HbA.o).trans ⟨ht6.own fun g hg=> .inr hg,fun g hg=> .inl (hbf6 g hg)⟩).trans (Mv.of hb7)) ?_ ?_ ?_ (by simp)
   .exact⟨by simp[evcs,evc],.inr ⟨w6.heap.size,1,_,rfl,hs6,World.alloc_heap_new w6 _,nr,by decide,rfl,by simp[evcs,evc,iv,List.range,List.range.loop]⟩⟩
   .intro g hg e'
    have:=hps6.lt hg
    simp only[Value.ownBlock,Option.some.injEq] at e'
    omega
   .rw[outs_reduce,he]
  have hfin:=hfin0.out _ rfl
  clear hfin0 hps6 hbf6 ht6 hT HPB HbA
  generalize redev m i q=e at *
  have Hfin:=zl hfin
  clear hfin
  unfold evv
  refine za1 11 (by kernel_rfl) rfl (fun K' hK=>?_)
  go_simp
  refine hK.o _ _ ⟨fun h=>absurd h (by decide),fun _=>trivial⟩ ?_
  clear hK K'
  refine za1 12 (by kernel_rfl) rfl (fun K' hK=>?_)
  go_simp
  refine hK.o _ _ ⟨fun h=>absurd h (by decide),fun h=>absurd h (by decide)⟩ ?_
  clear hK K'
  refine zch (by kernel_rfl) ?_
  go_wp2_with fail
  exact Hfin.o
end
section
open Go.RowKit Go.Shelf Go.Lib
def zbw (m:Mk):Mk:=if m.phase=0\/m.phase=2 then zah m 6 else m
def zjh (c:Cf) (m:Mk) (k id sd ty q p t:Nat):Mk:=
 if zcv c m k id sd ty q p≠0 then zbh m id (zcv c m k id sd ty q p) else if k=4 then zdu c m t else zbw (zcx m k id sd ty q p)
theorem zhx (m:Mk)(k id sd ty q p:Nat)(hg:Gd m)(hsd:k=1->isSd sd)(hk:k=1\/k=2\/k=3)(hpr:p<=4294967295):(zcx m k id sd ty q p).phase=m.phase:=by
 unfold zcx
 rcases hk with rfl|rfl|rfl
 .simp only[if_neg (show ¬1=2 by omega),if_neg (show ¬1=3 by omega)]
  unfold zbr
  split
  .unfold zhe
   have hm:(zbd (nth (zbl m ⟨id,sd,ty,p,q⟩).all m.all.length) m.all.length (nth (zbl m ⟨id,sd,ty,p,q⟩).all m.all.length).rest (zbl m ⟨id,sd,ty,p,q⟩)).phase=m.phase:=by
    refine(Trd.meet _ _ _ (zbl m ⟨id,sd,ty,p,q⟩) (by show m.all.length<(m.all++[_]).length;simp) fun j hj=>?_).phase
    have hm:=zg1 hj
    simp only[zbl,List.mem_append,List.mem_singleton] at hm
    rcases hm with e|e
    .exact hg.price _ e
    .show (nth (m.all++[⟨id,sd,ty,p,q⟩]) j).price<=4294967295
     rw[e]
     exact hpr
   split
   .rfl
   .split
    .exact hm
    .exact hm
  .rfl
 .rfl
 .simp only[if_neg (show ¬3=2 by omega),if_true]
  unfold ze9
  split<;>rfl
theorem zfy {w:World}{B:Nat}{v u:Value}{E1 E2:List (Nat->Int)}(ty:TypeId)(h1:Evs w B v E1)(h2:Evs w 0 u E2)(hn:E1.length+E2.length<=4000000000)(hb:B<=w.heap.size):
  ∃v' w',(Builtin.append_ #[32,32] ty #[v,u]).run Tryz.prog w= .ok v' w'/\Evs w' B v' (E1++E2)/\w.grownBy w' v.ownBlock/\(v'.ownBlock=v.ownBlock\/v'.ownBlock=some w.heap.size):=by
 obtain ⟨i0,hi0,hz0,hzs,hzb⟩:=info_parts Tryz.infoEventR
 unfold Evs at *
 rcases h2.2 with ⟨rfl,h0⟩|⟨g,cap,cur,rfl,_,h3,h4,h5,h6,h7⟩
 .have hE:E2=[]:=List.eq_nil_of_length_eq_zero h0
  subst hE
  refine⟨v,w,?_,by simpa using h1,zha _ _,.inl rfl⟩
  obtain ⟨a,c,rfl⟩:=zae h1
  have hnc:E1.length<=c:=by
   rcases h1.2 with ⟨e1,e2⟩|⟨g,c',cur,e1,_,_,e4,_⟩
   .rw[e2];exact Nat.zero_le _
   .cases e1;exact e4
  simp[Builtin.append_,run_underlying Tryz.underlying32,sizeOf,typeInfo,hi0,Builtin.lenOf,Builtin.firstCells,loadCells]
  rw[if_pos hnc]
  cases a<;>simp[storeCells]
 .obtain ⟨v',w',r1,r2,r3,_,r5⟩:=run_append_own_at (P:=Tryz.prog) w B 32 ty 42 i0 _ 10 80 Tryz.underlying32 hi0 hz0 hzs hzb rfl (by decide) v E1.length (evcs E1) h1 ⟨g,0,none⟩ E2.length cap (evcs E2) (by rw[zk1]) (fun j x hj=>by
   rw[Addr.add_lit]
   rw[cell_of_row w g (0+j) cur _ (0,0) h3]
   rw[←h7,List.getElem?_take] at hj
   split at hj
   .simpa using hj
   .cases hj) (evcs_one E2) (by unfold maxLen;omega) (by omega) hb
  refine⟨v',w',r1,?_,r3,r5⟩
  rw[List.length_append,evcs_app]
  exact r2
theorem pobey_any (P:Nat)(b:Bk)(c:Cf)(m:Mk)(s0 k id sd ty q p t:Nat)(w:World)(R:EW)(h:PS w P b c m s0)(hk:k=1\/k=2\/k=3\/k=4)(hty:k=1->1<=ty/\ty<=4)(hsd:k=1->isSd sd)(hid:id<=4294967295)(hq:q<=4294967295)(hpr:p<=4294967295)(ht:t<=4294967295)(hl:m.all.length<=1048575)(hct:c.total<=1000000000)
  (hR: ∀b' v E w',PS w' P b' c (zjh c m k id sd ty q p t) s0->Mv P w b w' b'->Evs w' w.heap.size v E->(∀g,Own P b' g->v.ownBlock≠some g)->outs (zjh c m k id sd ty q p t)=outs m++E->R (.returned v) w'):
  Calls Tryz.prog 60 #[.pointer (some ⟨P,0,none⟩),cmv k id sd ty q p t] w R:=by
 have HR:=zl hR
 unfold zjh at HR
 have HP:=zl h
 have hlP:=h.ltP
 have hb0:=zac w (.cells #[.int .i64 (k:Nat),.int .i64 (id:Nat),.int .i64 (sd:Nat),.int .i64 (ty:Nat),.int .i64 (q:Nat),.int .i64 (p:Nat),.int .i64 (t:Nat)] 113)
 have HPA:=zl (h.ext hb0)
 have Hb0:=zl hb0
 have hcm:=World.alloc_heap_new w (.cells #[.int .i64 (k:Nat),.int .i64 (id:Nat),.int .i64 (sd:Nat),.int .i64 (ty:Nat),.int .i64 (q:Nat),.int .i64 (p:Nat),.int .i64 (t:Nat)] 113)
 have Hcm:=zl hcm
 clear hR h hb0 hcm
 unfold cmv
 go_enter Tryz.func60,Tryz.ntmps60
 go_wp2_with fail
 generalize w.alloc (.cells #[.int .i64 (k:Nat),.int .i64 (id:Nat),.int .i64 (sd:Nat),.int .i64 (ty:Nat),.int .i64 (q:Nat),.int .i64 (p:Nat),.int .i64 (t:Nat)] 113)=A at *
 refine preason_any P b c m s0 k id sd ty q p t _ _ HPA.o hty hsd hid hq ?_
 intro w1 hb1
 have HP1:=zl (HPA.o.ext hb1)
 have Hb1:Hid (Below w.heap.size w w1):=zad Hb0.o hb1
 obtain ⟨x0,x1,x2,x3,x4,x5,x6⟩:=zc9 (zau hb1 Hcm.o)
 have hwl:=zab x0
 clear hb1 HPA Hb0 Hcm
 by_cases hr:zcv c m k id sd ty q p=0
 .have Hr:=zl hr
  simp only[hr,ne_eq,not_true_eq_false,if_false] at HR
  rw[hr]
  clear hr
  by_cases h4:k=4
  .simp only[if_pos h4] at HR
   clear hty hsd hk
   subst h4
   go_wp2_with fail
   refine ptick_any P b c m s0 t _ _ HP1.o ht ?_
   intro b' v E w' hps hbf htc hev hou hel
   have hown: ∀g,Own P b' g->v.ownBlock≠some g:=fun g hg e=>by
    have h1:=(World.ownsRow.lt hev g e).1
    have h2:g<w1.heap.size:=HP1.o.lt (by
     rcases hg with e|e
     .exact .inl e
     .exact .inr (hbf g e))
    omega
   have hfin:Hid (R (.returned v) w'):=HR.o b' v E w' hps ((Mv.of Hb1.o).trans ⟨htc,fun g hg=> .inl (hbf g hg)⟩) (hev.low Hb1.o.size) hown hou
   clear hps hbf htc hev hou hown
   go_wp2_with fail
   exact hfin.o
  .simp only[if_neg h4] at HR
   have h4':((k:Int)==4)=false:=by simp;omega
   go_wp2_with fail
   have hk3:k=1\/k=2\/k=3:=by omega
   refine pchange_any P b c m s0 k id sd ty q p t _ _ HP1.o hk3 hty hsd hid Hr.o hl hct ?_
   intro b2 v2 E w2 hps2 hmv2 hev2 hown2 hou2 hel2
   have hph1:=zhx m k id sd ty q p HP.o.pv.gd hsd hk3 hpr
   generalize zcx m k id sd ty q p=m1 at *
   have HPS2:=zl hps2
   have HM2:Hid (Mv P w b w2 b2):=(Mv.of Hb1.o).trans hmv2
   have Hev2:=zl hev2
   have Hown:=zl hown2
   have Hou:=zl hou2
   have hs2:w1.heap.size<=w2.heap.size:=hmv2.tch.size
   obtain ⟨va,vc,rfl⟩:=zae hev2
   have hp3:=hps2.ph
   clear hps2 hmv2 hev2 hown2 hou2 hty hsd hk hk3 HP1 hph1 x0 x1 x2 x3 x4 x5 x6
   go_wp2_with fail
   have hcase:m1.phase=0\/m1.phase=1\/m1.phase=2\/m1.phase=3:=by omega
   rcases hcase with hph|hph|hph|hph
   .have c6:=HPS2.o.pm.cells 6 (.int .i64 (m1.phase:Nat)) rfl
    rw[hph] at c6
    refine zdw P _ _ c6 ?_
    intro w3 hb3
    have HPS3:=zl (HPS2.o.ext hb3)
    have HM3:Hid (Mv P w b w3 b2):=HM2.o.trans (Mv.of hb3)
    have Hev3:=zl (Hev2.o.ext hb3)
    have hs3:w1.heap.size<=w3.heap.size:=llt hs2 hb3.size
    clear hb3 c6 HPS2 HM2 Hev2
    unfold zay fnv
    have f4:=rfield4 (.func (.func 123) #[] #[]) (.func (.func 124) #[] #[]) (.func (.func 125) #[] #[]) (.func (.func 126) #[] #[]) (.func (.func 127) #[] #[]) (.func (.func 128) #[] #[]) (.func (.func 129) #[] #[])
    have e4:=enters_of Tryz.func127 (by kernel_rfl) rfl
    go_wp2_with fail
    refine zf8 P b2 c m1 s0 _ _ HPS3.o ?_
    intro v4 w4 hev4 hb4
    have hps4:PS w4 P b2 c m1 s0:=HPS3.o.ext hb4
    have hev4':Evs w4 w1.heap.size (.slice va E.length vc) E:=Hev3.o.ext hb4
    have hmv4:Mv P w b w4 b2:=HM3.o.trans (Mv.of hb4)
    obtain ⟨vj,wj,hj,hjE,hjg,hjl⟩:=zfy 32 hev4' (hev4.low (Nat.zero_le _)) (by simp;omega) (llt hs3 hb4.size)
    obtain ⟨a4,k4,rfl⟩:=zae hev4
    have HE4:Hid (outs (zbw m1)=outs m++(E++[zgy 6 m1])):=by
     show outs (zbw m1)=outs m++(E++[zgy 6 m1])
     unfold zbw
     rw[if_pos (by omega),zef,Hou.o,List.append_assoc]
    have hpsj:PS wj P b2 c (zbw m1) s0:=by
     unfold zbw
     rw[if_pos (by omega)]
     exact(hps4.tell _).keep fun g hg=>hjg.block g (hps4.lt hg) fun e=>Hown.o g hg e.symm
    have hfin:Hid (R (.returned vj) wj):=by
     refine HR.o b2 vj _ wj hpsj ⟨zdh _ w hmv4.tch hjg hev4' Hb1.o.size,hmv4.bf⟩ (hjE.low Hb1.o.size) (fun g hg e=>?_) HE4.o
     rcases hjl with hjl|hjl
     .exact Hown.o g hg (hjl▸e)
     .have:=hps4.lt hg
      rw[hjl] at e
      cases e
      omega
    clear hjE hjg hjl hps4 hev4' hmv4 hpsj HE4 HPS3 HM3 Hev3 f4 e4
    simp only[List.length_cons,List.length_nil,Nat.zero_add] at hj
    go_wp2_with (at_builtin;refine wpList_append_run _ rfl _ _ _ _ rfl _ _ rfl rfl _ _ hj ?_)
    exact hfin.o
   .have c6:=HPS2.o.pm.cells 6 (.int .i64 (m1.phase:Nat)) rfl
    rw[hph] at c6
    refine zde P _ _ c6 ?_
    intro w3 hb3
    have HPS3:=zl (HPS2.o.ext hb3)
    have HM3:Hid (Mv P w b w3 b2):=HM2.o.trans (Mv.of hb3)
    have Hev3:=zl (Hev2.o.ext hb3)
    have hs3:w1.heap.size<=w3.heap.size:=llt hs2 hb3.size
    clear hb3 c6 HPS2 HM2 Hev2
    unfold zay fnv
    have f4:=rfield4 (.func (.func 130) #[] #[]) (.func (.func 131) #[] #[]) (.func (.func 125) #[] #[]) (.func (.func 132) #[] #[]) (.func (.func 129) #[] #[]) (.func (.func 129) #[] #[]) (.func (.func 133) #[] #[])
    have e4:=enters_of Tryz.func129 (by kernel_rfl) rfl
    go_wp2_with fail
    refine zfb _ _ _ ?_
    have hps4:=HPS3.o
    have hev4':=Hev3.o
    have hmv4:=HM3.o
    obtain ⟨vj,wj,hj,hjE,hjg,hjl⟩:=zfy 32 hev4' (Evs.nil w3 0) (by simp;omega) hs3
    have HE4:Hid (outs (zbw m1)=outs m++(E++[])):=by
     show outs (zbw m1)=outs m++(E++[])
     unfold zbw
     rw[if_neg (by omega),Hou.o,List.append_nil]
    have hpsj:PS wj P b2 c (zbw m1) s0:=by
     unfold zbw
     rw[if_neg (by omega)]
     exact hps4.keep fun g hg=>hjg.block g (hps4.lt hg) fun e=>Hown.o g hg e.symm
    have hfin:Hid (R (.returned vj) wj):=by
     refine HR.o b2 vj _ wj hpsj ⟨zdh _ w hmv4.tch hjg hev4' Hb1.o.size,hmv4.bf⟩ (hjE.low Hb1.o.size) (fun g hg e=>?_) HE4.o
     rcases hjl with hjl|hjl
     .exact Hown.o g hg (hjl▸e)
     .have:=hps4.lt hg
      rw[hjl] at e
      cases e
      omega
    clear hjE hjg hjl hps4 hev4' hmv4 hpsj HE4 HPS3 HM3 Hev3 f4 e4
    skip
    go_wp2_with (at_builtin;refine wpList_append_run _ rfl _ _ _ _ rfl _ _ rfl rfl _ _ hj ?_)
    exact hfin.o
   .have c6:=HPS2.o.pm.cells 6 (.int .i64 (m1.phase:Nat)) rfl
    rw[hph] at c6
    refine zdd P _ _ c6 ?_
    intro w3 hb3
    have HPS3:=zl (HPS2.o.ext hb3)
    have HM3:Hid (Mv P w b w3 b2):=HM2.o.trans (Mv.of hb3)
    have Hev3:=zl (Hev2.o.ext hb3)
    have hs3:w1.heap.size<=w3.heap.size:=llt hs2 hb3.size
    clear hb3 c6 HPS2 HM2 Hev2
    unfold zay fnv
    have f4:=rfield4 (.func (.func 134) #[] #[]) (.func (.func 131) #[] #[]) (.func (.func 135) #[] #[]) (.func (.func 126) #[] #[]) (.func (.func 127) #[] #[]) (.func (.func 128) #[] #[]) (.func (.func 136) #[] #[])
    have e4:=enters_of Tryz.func127 (by kernel_rfl) rfl
    go_wp2_with fail
    refine zf8 P b2 c m1 s0 _ _ HPS3.o ?_
    intro v4 w4 hev4 hb4
    have hps4:PS w4 P b2 c m1 s0:=HPS3.o.ext hb4
    have hev4':Evs w4 w1.heap.size (.slice va E.length vc) E:=Hev3.o.ext hb4
    have hmv4:Mv P w b w4 b2:=HM3.o.trans (Mv.of hb4)
    obtain ⟨vj,wj,hj,hjE,hjg,hjl⟩:=zfy 32 hev4' (hev4.low (Nat.zero_le _)) (by simp;omega) (llt hs3 hb4.size)
    obtain ⟨a4,k4,rfl⟩:=zae hev4
    have HE4:Hid (outs (zbw m1)=outs m++(E++[zgy 6 m1])):=by
     show outs (zbw m1)=outs m++(E++[zgy 6 m1])
     unfold zbw
     rw[if_pos (by omega),zef,Hou.o,List.append_assoc]
    have hpsj:PS wj P b2 c (zbw m1) s0:=by
     unfold zbw
     rw[if_pos (by omega)]
     exact(hps4.tell _).keep fun g hg=>hjg.block g (hps4.lt hg) fun e=>Hown.o g hg e.symm
    have hfin:Hid (R (.returned vj) wj):=by
     refine HR.o b2 vj _ wj hpsj ⟨zdh _ w hmv4.tch hjg hev4' Hb1.o.size,hmv4.bf⟩ (hjE.low Hb1.o.size) (fun g hg e=>?_) HE4.o
     rcases hjl with hjl|hjl
     .exact Hown.o g hg (hjl▸e)
     .have:=hps4.lt hg
      rw[hjl] at e
      cases e
      omega
    clear hjE hjg hjl hps4 hev4' hmv4 hpsj HE4 HPS3 HM3 Hev3 f4 e4
    simp only[List.length_cons,List.length_nil,Nat.zero_add] at hj
    go_wp2_with (at_builtin;refine wpList_append_run _ rfl _ _ _ _ rfl _ _ rfl rfl _ _ hj ?_)
    exact hfin.o
   .have c6:=HPS2.o.pm.cells 6 (.int .i64 (m1.phase:Nat)) rfl
    rw[hph] at c6
    refine zfq P _ _ c6 ?_
    intro w3 hb3
    have HPS3:=zl (HPS2.o.ext hb3)
    have HM3:Hid (Mv P w b w3 b2):=HM2.o.trans (Mv.of hb3)
    have Hev3:=zl (Hev2.o.ext hb3)
    have hs3:w1.heap.size<=w3.heap.size:=llt hs2 hb3.size
    clear hb3 c6 HPS2 HM2 Hev2
    unfold zay fnv
    have f4:=rfield4 (.func (.func 137) #[] #[]) (.func (.func 135) #[] #[]) (.func (.func 135) #[] #[]) (.func (.func 126) #[] #[]) (.func (.func 129) #[] #[]) (.func (.func 129) #[] #[]) (.func (.func 138) #[] #[])
    have e4:=enters_of Tryz.func129 (by kernel_rfl) rfl
    go_wp2_with fail
    refine zfb _ _ _ ?_
    have hps4:=HPS3.o
    have hev4':=Hev3.o
    have hmv4:=HM3.o
    obtain ⟨vj,wj,hj,hjE,hjg,hjl⟩:=zfy 32 hev4' (Evs.nil w3 0) (by simp;omega) hs3
    have HE4:Hid (outs (zbw m1)=outs m++(E++[])):=by
     show outs (zbw m1)=outs m++(E++[])
     unfold zbw
     rw[if_neg (by omega),Hou.o,List.append_nil]
    have hpsj:PS wj P b2 c (zbw m1) s0:=by
     unfold zbw
     rw[if_neg (by omega)]
     exact hps4.keep fun g hg=>hjg.block g (hps4.lt hg) fun e=>Hown.o g hg e.symm
    have hfin:Hid (R (.returned vj) wj):=by
     refine HR.o b2 vj _ wj hpsj ⟨zdh _ w hmv4.tch hjg hev4' Hb1.o.size,hmv4.bf⟩ (hjE.low Hb1.o.size) (fun g hg e=>?_) HE4.o
     rcases hjl with hjl|hjl
     .exact Hown.o g hg (hjl▸e)
     .have:=hps4.lt hg
      rw[hjl] at e
      cases e
      omega
    clear hjE hjg hjl hps4 hev4' hmv4 hpsj HE4 HPS3 HM3 Hev3 f4 e4
    skip
    go_wp2_with (at_builtin;refine wpList_append_run _ rfl _ _ _ _ rfl _ _ rfl rfl _ _ hj ?_)
    exact hfin.o
 .simp only[ne_eq,hr,not_false_eq_true,if_true] at HR
  have hr':((zcv c m k id sd ty q p:Int)==0)=false:=by simp;omega
  generalize zcv c m k id sd ty q p=rr at *
  go_wp2_with fail
  refine zhm id rr _ _ ?_
  intro w2 hb2
  have hfin0: ∀e,e=mkev 2 0 id rr 0 0 0 0 0 0->Hid (R (.returned (.slice (some ⟨w2.heap.size,0,none⟩) 1 1)) (w2.alloc (.cells #[.int .i64 (e 0),.int .i64 (e 1),.int .i64 (e 2),.int .i64 (e 3),.int .i64 (e 4),.int .i64 (e 5),.int .i64 (e 6),.int .i64 (e 7),.int .i64 (e 8),.int .i64 (e 9)] 42))):=by
   intro e he
   have hb3:=zac w2 (.cells #[.int .i64 (e 0),.int .i64 (e 1),.int .i64 (e 2),.int .i64 (e 3),.int .i64 (e 4),.int .i64 (e 5),.int .i64 (e 6),.int .i64 (e 7),.int .i64 (e 8),.int .i64 (e 9)] 42)
   have hbw:Below w.heap.size w w2:=zad Hb1.o hb2
   have hps2:PS w2 P b c m s0:=HP1.o.ext hb2
   refine HR.o b _ [e] _ ((hps2.ext hb3).tell _) ((Mv.of hbw).trans (Mv.of hb3)) ?_ ?_ ?_
   .exact⟨by simp[evcs,evc],.inr ⟨w2.heap.size,1,_,rfl,hbw.size,World.alloc_heap_new w2 _,nr,by decide,rfl,by simp[evcs,evc,iv,List.range,List.range.loop]⟩⟩
   .intro g hg e'
    have:=hps2.lt hg
    simp only[Value.ownBlock,Option.some.injEq] at e'
    omega
   .rw[outs_reject,he]
  have hfin:=hfin0 _ rfl
  clear hfin0 hb2 HR
  generalize mkev 2 0 (id:Int) (rr:Int) 0 0 0 0 0 0=e at *
  unfold evv
  go_wp2_with fail
  exact hfin.o
end
section
open Go.RowKit Go.Shelf
def ev0:Nat->Int:=fun _=>0
theorem evcs_get (E:List (Nat->Int))(i:Nat)(hi:i<E.length)(j:Nat)(hj:j<10):(evcs E)[i * 10+j]?=some (.int .i64 (E.getD i ev0 j)):=by
 induction E generalizing i with
 |nil=>simp at hi
 |cons e E ih=>
  have h1:evcs (e::E)=evc e++evcs E:=by simp[evcs]
  have hl:(evc e).length=10:=by simp[evc]
  rw[h1]
  cases i with
  |zero=>
   rw[List.getElem?_append_left (by rw[hl];omega)]
   simp[evc,iv,hj]
  |succ i=>
   rw[List.getElem?_append_right (by rw[hl];omega),hl]
   rw[show (i+1) * 10+j-10=i * 10+j by omega,ih i (by simpa using hi)]
   simp
variable {B:Nat} {v:Value} {w:World}
theorem evs_cells {E:List (Nat->Int)}(h:Evs w B v E):
  ∃a cap g,v= .slice a E.length cap/\(0<E.length->a=some ⟨g,0,none⟩/\v.ownBlock=some g/\g<w.heap.size)/\ ∀i,i<E.length-> ∀j,j<10->w.cell? ⟨g,i * 10+j,none⟩=some (.int .i64 (E.getD i ev0 j)):=by
 unfold Evs at h
 rcases h.2 with ⟨h1,h2⟩|⟨g,cap,cur,h1,h2,h3,h4,h5,h6,h7⟩
 .exact⟨none,0,0,by rw[h1,h2],fun h=>by omega,fun i hi=>by omega⟩
 .refine⟨_,cap,g,h1,fun _=>⟨rfl,by rw[h1];rfl,(gsi.1 h3).1⟩,fun i hi j hj=>?_⟩
  rw[cell_of_row w g (i * 10+j) cur 42 (0,0) h3]
  have hq:=evcs_get E i hi j hj
  rw[←h7,List.getElem?_take] at hq
  split at hq
  .simpa using hq
  .cases hq
def zao (E:List (Nat->Int)):List Int:=E.flatMap zdr
theorem zk2 (E:List (Nat->Int)):(zao E).length<=40 * E.length:=by
 induction E with
 |nil=>simp[zao]
 |cons e E ih=>
  have h1:zao (e::E)=zdr e++zao E:=by simp[zao]
  have:=ebytes_len e
  rw[h1,List.length_append,List.length_cons]
  omega
theorem own_raise {B':Nat}{e:TypeId}{size:Nat}{n:Nat}{xs:List Value}(h:w.ownsRow B e size v n xs)(hg: ∀g,v.ownBlock=some g->B'<=g):w.ownsRow B' e size v n xs:=by
 refine⟨h.1,?_⟩
 rcases h.2 with h2|⟨g,cap,cur,h1,h2,h3⟩
 .exact .inl h2
 .exact .inr ⟨g,cap,cur,h1,hg g (by rw[h1];rfl),h3⟩
theorem take_snocE (E:List (Nat->Int))(k:Nat)(hk:k<E.length):E.take (k+1)=E.take k++[E.getD k ev0]:=by
 rw[List.take_add_one]
 simp[List.getD_eq_getElem?_getD,hk]
theorem Append_at (w0:World)(hL:zcq w0)(v:Value)(n:Nat)(xs:List Int)(e:Nat->Int)(V:Value)(hV:V=evv e)(w:World)(R:EW)(h0:Below w0.heap.size w0 w)(hown:w.ownsRow w0.heap.size 5 1 v n (xs.map bv))
  (k:Nat)(hk1:1<=k)(hk8:k<=8)(hk:e 0=k)(hr: ∀j,-9223372036854775808<=e j/\e j<=9223372036854775807)(hn:n+64<=1073741824)
  (hR: ∀v' w',Grew w0.heap.size 5 1 w v w' v' (n+(zdr e).length) ((xs++zdr e).map bv)->R (.returned v') w'):
  Calls Tryz.prog 44 #[v,V] w R:=hV▸Append_any w0 hL v n xs e w R h0 hown k hk1 hk8 hk hr hn hR
theorem ptell_any (P K:Nat)(c:Cf)(m:Mk)(E:List (Nat->Int))(ev:Value)(B:Nat)(w0 w:World)(R:EW)(hblk:w.heap[P]?=some (.cells (pmc c m K) 104 (0,0)))(hE:Evs w B ev E)(hown:ev.ownBlock≠some P)
  (hL:zcq w0)(hb0:Below w0.heap.size w0 w)(hP0:w0.heap.size<=P)(hs:m.seq<=4294967295)(hk: ∀i,i<E.length->1<=E.getD i ev0 0/\E.getD i ev0 0<=8)(hr: ∀i j,-9223372036854775808<=E.getD i ev0 j/\E.getD i ev0 j<=9223372036854775807)(hlen:E.length<=20000000)
  (hR: ∀v w',w'.heap[P]?=some (.cells (pmc c {m with seq:=(m.seq+E.length)%4294967296} K) 104 (0,0))->w'.ownsRow w.heap.size 5 1 v (zao (numb m.seq E)).length ((zao (numb m.seq E)).map bv)->Tch (fun g=>g=P) w w'->R (.returned v) w'):
  Calls Tryz.prog 57 #[.pointer (some ⟨P,0,none⟩),ev] w R:=by
 have HR:=zl hR
 obtain ⟨a,cap,g,rfl,ha,hc⟩:=evs_cells hE
 have HA:=zl ha
 have HC:=zl hc
 have HB:=zl hblk
 have HW:=zl hb0
 have HL:=zl hL
 have HO:Hid ((Value.slice a E.length cap).ownBlock≠some P):=hown
 have HK:=zl hk
 have HRr:=zl hr
 have hPl:=(gsi.1 hblk).1
 clear hR hE ha hc hblk hb0 hL hown hk hr
 go_enter Tryz.func57,Tryz.ntmps57
 go_wp2_with fail
 go_loopw [5,7,10] (fun u _ i wr=> ∃k:Nat,k<=E.length/\i= .int .i64 k/\wr.heap[P]?=some (.cells (pmc c {m with seq:=(m.seq+k)%4294967296} K) 104 (0,0))/\wr.ownsRow w0.heap.size 5 1 u (zao (numb m.seq (E.take k))).length ((zao (numb m.seq (E.take k))).map bv)/\(∀g,u.ownBlock=some g->w.heap.size<=g)/\Tch (fun g=>g=P) w wr) (fun _ _ i _=>E.length-(intOf i).toNat)
 case atStart=>exact⟨0,Nat.zero_le _,rfl,by rw[Nat.add_zero,Nat.mod_eq_of_lt (by omega)];exact HB.o,World.ownsRow_nil _ _ _ _,(fun g e=>by cases e),Tch.refl _ _⟩
 case round=>
  obtain ⟨k,hk,rfl,h1,h2,h3,h4⟩:=hrel
  have H1:=zl h1
  have H2:=zl h2
  have H3:=zl h3
  have H4:=zl h4
  clear h1 h2 h3 h4
  by_cases hkn:k<E.length
  .obtain ⟨rfl,hog,hgl⟩:=HA.o (by omega)
   obtain ⟨e,he⟩: ∃e,E.getD k ev0=e:=⟨_,rfl⟩
   have hgP:g≠P:=fun e'=>HO.o (by rw[hog,e'])
   have hblk:wr.heap[g]?=w.heap[g]?:=H4.o.blk g hgl hgP
   have hc': ∀j,j<10->wr.cell? ⟨g,k * 10+j,none⟩=some (.int .i64 (e j)):=fun j hj=>(World.cell?_of_block (a:=⟨g,k * 10+j,none⟩) hblk).trans (he▸HC.o k hkn j hj)
   have c0:=hc' 0 (by decide)
   rw[Nat.add_zero] at c0
   have c1:=hc' 1 (by decide)
   have c2:=hc' 2 (by decide)
   have c3:=hc' 3 (by decide)
   have c4:=hc' 4 (by decide)
   have c5:=hc' 5 (by decide)
   have c6:=hc' 6 (by decide)
   have c7:=hc' 7 (by decide)
   have c8:=hc' 8 (by decide)
   have c9:=hc' 9 (by decide)
   have hgl2:=zab c0
   have hPl2:P<wr.heap.size:=lll hPl H4.o.size
   obtain ⟨s,hs0⟩: ∃s,(m.seq+k)%4294967296=s:=⟨_,rfl⟩
   have hsb:s<=4294967295:=by omega
   obtain ⟨s1,hs1⟩: ∃s1,(s+1)%4294967296=s1:=⟨_,rfl⟩
   have h1:=H1.o
   rw[hs0] at h1
   have q9:wr.cell? ⟨P,9,none⟩=some (.int .i64 (s:Nat)):=by rw[cell_of_row wr P 9 _ _ (0,0) h1];rfl
   have f9:wr.frozen? ⟨P,9,none⟩=false:=by simp[World.frozen?,h1]
   have hsz:(wr.setCell ⟨P,9,none⟩ (.int .i64 (s1:Nat))).heap.size=wr.heap.size:=by simp[World.setCell]
   have Hblk:Hid (((wr.setCell ⟨P,9,none⟩ (.int .i64 (s1:Nat))).alloc (.cells #[.int .i64 (e 0),.int .i64 (s1:Nat),.int .i64 (e 2),.int .i64 (e 3),.int .i64 (e 4),.int .i64 (e 5),.int .i64 (e 6),.int .i64 (e 7),.int .i64 (e 8),.int .i64 (e 9)] 42)).heap[P]?=some (.cells (pmc c {m with seq:=s1} K) 104 (0,0))):=(Below.heap_alloc _ _ _ (by rw[hsz];exact hPl2)).trans (blk_seq (m:={m with seq:=s}) h1 s1)
   have Hrow:Hid (((wr.setCell ⟨P,9,none⟩ (.int .i64 (s1:Nat))).alloc (.cells #[.int .i64 (e 0),.int .i64 (s1:Nat),.int .i64 (e 2),.int .i64 (e 3),.int .i64 (e 4),.int .i64 (e 5),.int .i64 (e 6),.int .i64 (e 7),.int .i64 (e 8),.int .i64 (e 9)] 42)).ownsRow w0.heap.size 5 1 u5 (zao (numb m.seq (E.take k))).length ((zao (numb m.seq (E.take k))).map bv)):=zb6 H2.o fun g' hg'=>(Below.heap_alloc _ _ _ (by rw[hsz];exact(H2.o.lt g' hg').2)).trans (bhs _ ⟨P,9,none⟩ _ g' (by show g'≠P;have:=H3.o g' hg';omega))
   have Htc:Hid (Tch (fun g=>g=P) w ((wr.setCell ⟨P,9,none⟩ (.int .i64 (s1:Nat))).alloc (.cells #[.int .i64 (e 0),.int .i64 (s1:Nat),.int .i64 (e 2),.int .i64 (e 3),.int .i64 (e 4),.int .i64 (e 5),.int .i64 (e 6),.int .i64 (e 7),.int .i64 (e 8),.int .i64 (e 9)] 42))):=(H4.o.trans (ze6 rfl)).trans (Tch.of (zac _ _))
   have hseq:(m.seq+(k+1))%4294967296=s1:=by omega
   have hnb:numb m.seq (E.take (k+1))=numb m.seq (E.take k)++[fun j=>if j=1 then (s1:Int) else e j]:=by
    rw[take_snocE E k hkn,numb_snoc m.seq hs,he]
    have hlk:(E.take k).length=k:=by simp;omega
    rw[hlk,hs0,hs1]
   have hk0:=HK.o k hkn
   rw[he] at hk0
   have hrr:=HRr.o k
   rw[he] at hrr
   have Hk0:=zl hk0
   have Hrr:=zl hrr
   have Hnb:=zl hnb
   have hln:=zk2 (numb m.seq (E.take k))
   rw[numb_length,List.length_take] at hln
   clear hc' hblk h1 he hk0 hrr hnb H1 H2
   go_wp2_with fail
   refine pseqBehind_any s hsb _ _ ?_
   rw[hs1]
   go_wp2_with fail
   generalize (wr.setCell ⟨P,9,none⟩ (.int .i64 (s1:Nat))).alloc (.cells #[.int .i64 (e 0),.int .i64 (s1:Nat),.int .i64 (e 2),.int .i64 (e 3),.int .i64 (e 4),.int .i64 (e 5),.int .i64 (e 6),.int .i64 (e 7),.int .i64 (e 8),.int .i64 (e 9)] 42)=W at *
   clear c0 c1 c2 c3 c4 c5 c6 c7 c8 c9 q9 f9
   have hbw:Below w0.heap.size w0 W:=⟨Htc.o.os.trans HW.o.os,Htc.o.tape.trans HW.o.tape,Htc.o.output.trans HW.o.output,llt HW.o.size Htc.o.size,fun g' hg'=>(Htc.o.blk g' (lll hg' HW.o.size) (by omega)).trans (HW.o.block g' hg')⟩
   obtain ⟨kk,hkk⟩:=Int.eq_ofNat_of_zero_le (show 0<=e 0 by have:=Hk0.o;omega)
   refine Append_at w0 HL.o u5 _ (zao (numb m.seq (E.take k))) (fun j=>if j=1 then (s1:Int) else e j) _ rfl W _ hbw Hrow.o kk (by have:=Hk0.o;omega) (by have:=Hk0.o;omega) hkk (fun j=>?_) (by omega) ?_
   .by_cases hj:j=1
    .simp only[if_pos hj]
     omega
    .simp only[if_neg hj]
     exact Hrr.o j
   intro v' w' hG
   have hbytes:zao (numb m.seq (E.take (k+1)))=zao (numb m.seq (E.take k))++zdr (fun j=>if j=1 then (s1:Int) else e j):=by
    rw[Hnb.o]
    simp[zao]
   have Hf1:Hid (w'.heap[P]?=some (.cells (pmc c {m with seq:=(m.seq+(k+1))%4294967296} K) 104 (0,0))):=by
    rw[hseq]
    exact(hG.grown.block P (gsi.1 Hblk.o).1 (fun e'=>by have:=H3.o P e'.symm;omega)).trans Hblk.o
   have Hf2:Hid (w'.ownsRow w0.heap.size 5 1 v' (zao (numb m.seq (E.take (k+1)))).length ((zao (numb m.seq (E.take (k+1)))).map bv)):=by
    rw[hbytes,List.length_append]
    exact hG.own
   have Hf3:Hid (∀g,v'.ownBlock=some g->w.heap.size<=g):=by
    intro g' hg'
    rcases hG.lies with h5|h5
    .exact H3.o g' (h5▸hg')
    .exact llt Htc.o.size (h5 g' hg')
   have Hf4:Hid (Tch (fun g=>g=P) w w'):=⟨hG.grown.os.trans Htc.o.os,hG.grown.tape.trans Htc.o.tape,hG.grown.output.trans Htc.o.output,llt Htc.o.size hG.grown.size,fun g' hg' hn=>(hG.grown.block g' (lll hg' Htc.o.size) (fun e'=>by have:=H3.o g' e'.symm;omega)).trans (Htc.o.blk g' hg' hn)⟩
   clear hG hbytes hbw
   go_wp2_with fail
   go_roundw
   case rel=>exact⟨k+1,by omega,by go_num,Hf1.o,Hf2.o,Hf3.o,Hf4.o⟩
   case measure=>simp[intOf];omega
  .have hk':k=E.length:=by omega
   subst hk'
   have hfin:Hid (R (.returned u5) wr):=by
    have h1:=H1.o
    have h2:=H2.o
    rw[List.take_length] at h2
    exact HR.o u5 wr h1 (own_raise h2 H3.o) H4.o
   go_wp2_with fail
   exact hfin.o
end
