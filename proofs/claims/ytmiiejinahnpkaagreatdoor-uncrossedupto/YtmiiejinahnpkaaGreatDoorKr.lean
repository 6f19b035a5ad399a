import Derived.Test.YtmiiejinahnpkaaGreatDoorXKpKq
import Derived.Test.YtmiiejinahnpkaaGreatDoorIj
set_option maxRecDepth 8000
set_option maxHeartbeats 2000000
namespace Go.Proofs.YtmiiejinahnpkaaGreatDoor
open Go.RowKit Go.Shelf Go.Lib
def zbl (m:Mk) (o:Od):Mk:={zax m (mkev 1 0 o.id 0 0 0 o.rest 0 0 0) with all:=m.all++[o]}
def zbr (m:Mk) (o:Od):Mk:=if m.phase=1 then zhe (zbl m o) m.all.length else zbl m o
theorem bAdd_of (b:Bk)(ph:Nat)(l:List Od)(o:Od)(V:Value)(hV:V=ordv o (wt ph o))(w:World)(R:EW)(h:BKs w b ph l)(hone:oneId l)(hl:l.length<=1000000000)(hsd:isSd o.side)(hid:o.id<=4294967295)(hcnt:(b.q o.side).length+1<=1048576)(hlt: ∀s,isSd s-> ∀i∈b.q s,i<l.length)
  (hR: ∀(E:Nat) (v':Value) (k:Nat) (w':World),w.heap.size<=E->BKs w' (b.added E v' k l.length o.side) ph (l++[o])->k<=(b.q o.side).length->(∀j,j<k->tkP (nth l (qat (b.q o.side) j)) (lim o)=true)->(k<(b.q o.side).length->tkP (nth l (qat (b.q o.side) k)) (lim o)=false)->
   Tch (fun g=>b.T g\/g=b.M) w w'->(v'.ownBlock=(b.v o.side).ownBlock\/ ∀g,v'.ownBlock=some g->w.heap.size<=g)->R (.returned (.pointer (some ⟨E,0,none⟩))) w'):
  Calls Tryz.prog 163 #[.pointer (some ⟨b.K,0,none⟩),V] w R:=hV▸bAdd_any b ph l o w R h hone hl hsd hid hcnt hlt hR
theorem paccept0_any (P:Nat)(b:Bk)(c:Cf)(m:Mk)(s0 k id sd ty q p t:Nat)(w:World)(R:EW)(h:PS w P b c m s0)(hty:1<=ty/\ty<=4)(hsd:isSd sd)(hid:id<=4294967295)(href:zbc c m ⟨id,sd,ty,p,q⟩=0)(hl:m.all.length<=1048575)(hct:c.total<=1000000000)(hph:m.phase=0)
  (hR: ∀b' v E w',PS w' P b' c (zbr m ⟨id,sd,ty,p,q⟩) s0->Mv P w b w' b'->Evs w' w.heap.size v E->(∀g,Own P b' g->v.ownBlock≠some g)->outs (zbr m ⟨id,sd,ty,p,q⟩)=outs m++E->E.length<=1048578->R (.returned v) w'):
  Calls Tryz.prog 122 #[.pointer (some ⟨P,0,none⟩),cmv k id sd ty q p t] w R:=by
 have HR:=zl hR
 have HP:=zl h
 have hlP:=h.ltP
 obtain ⟨hok,hnew,hrest,htot,_,_⟩:=zet (c:=c) (m:=m) (o:=⟨id,sd,ty,p,q⟩) hty hsd href
 have hcnt:=h.pv.count
 have hlv:zap m.all<=m.all.length:=List.length_filter_le _ _
 have hc1:(b.q sd).length+1<=1048576:=by rcases hsd with rfl|rfl<;>omega
 have hb0:=zac w (.cells #[.int .i64 (k:Nat),.int .i64 (id:Nat),.int .i64 (sd:Nat),.int .i64 (ty:Nat),.int .i64 (q:Nat),.int .i64 (p:Nat),.int .i64 (t:Nat)] 113)
 obtain ⟨_,x1,x2,x3,x4,x5,_⟩:=zc9 (World.alloc_heap_new w (.cells #[.int .i64 (k:Nat),.int .i64 (id:Nat),.int .i64 (sd:Nat),.int .i64 (ty:Nat),.int .i64 (q:Nat),.int .i64 (p:Nat),.int .i64 (t:Nat)] 113))
 have hT:(w.alloc (.cells #[.int .i64 (k:Nat),.int .i64 (id:Nat),.int .i64 (sd:Nat),.int .i64 (ty:Nat),.int .i64 (q:Nat),.int .i64 (p:Nat),.int .i64 (t:Nat)] 113)).drew.cell? ⟨P,10,none⟩=some (.pointer (some ⟨b.K,0,none⟩))/\(w.alloc (.cells #[.int .i64 (k:Nat),.int .i64 (id:Nat),.int .i64 (sd:Nat),.int .i64 (ty:Nat),.int .i64 (q:Nat),.int .i64 (p:Nat),.int .i64 (t:Nat)] 113)).drew.cell? ⟨P,6,none⟩=some (.int .i64 0)/\(w.alloc (.cells #[.int .i64 (k:Nat),.int .i64 (id:Nat),.int .i64 (sd:Nat),.int .i64 (ty:Nat),.int .i64 (q:Nat),.int .i64 (p:Nat),.int .i64 (t:Nat)] 113)).drew.cell? ⟨w.heap.size,1,none⟩=some (.int .i64 (id:Nat))/\(w.alloc (.cells #[.int .i64 (k:Nat),.int .i64 (id:Nat),.int .i64 (sd:Nat),.int .i64 (ty:Nat),.int .i64 (q:Nat),.int .i64 (p:Nat),.int .i64 (t:Nat)] 113)).drew.cell? ⟨w.heap.size,2,none⟩=some (.int .i64 (sd:Nat))/\(w.alloc (.cells #[.int .i64 (k:Nat),.int .i64 (id:Nat),.int .i64 (sd:Nat),.int .i64 (ty:Nat),.int .i64 (q:Nat),.int .i64 (p:Nat),.int .i64 (t:Nat)] 113)).drew.cell? ⟨w.heap.size,3,none⟩=some (.int .i64 (ty:Nat))/\(w.alloc (.cells #[.int .i64 (k:Nat),.int .i64 (id:Nat),.int .i64 (sd:Nat),.int .i64 (ty:Nat),.int .i64 (q:Nat),.int .i64 (p:Nat),.int .i64 (t:Nat)] 113)).drew.cell? ⟨w.heap.size,4,none⟩=some (.int .i64 (q:Nat))/\(w.alloc (.cells #[.int .i64 (k:Nat),.int .i64 (id:Nat),.int .i64 (sd:Nat),.int .i64 (ty:Nat),.int .i64 (q:Nat),.int .i64 (p:Nat),.int .i64 (t:Nat)] 113)).drew.cell? ⟨w.heap.size,5,none⟩=some (.int .i64 (p:Nat)):=⟨zaa hb0.drew (h.pm.cells 10 _ rfl),(by have c6:=zaa hb0.drew (h.pm.cells 6 (.int .i64 (m.phase:Nat)) rfl);rw[hph] at c6;exact c6),x1,x2,x3,x4,x5⟩
 have hbA:Below w.heap.size w (w.alloc (.cells #[.int .i64 (k:Nat),.int .i64 (id:Nat),.int .i64 (sd:Nat),.int .i64 (ty:Nat),.int .i64 (q:Nat),.int .i64 (p:Nat),.int .i64 (t:Nat)] 113)).drew:=hb0.drew
 have hsA:(w.alloc (.cells #[.int .i64 (k:Nat),.int .i64 (id:Nat),.int .i64 (sd:Nat),.int .i64 (ty:Nat),.int .i64 (q:Nat),.int .i64 (p:Nat),.int .i64 (t:Nat)] 113)).drew.heap.size=w.heap.size+1:=by simp[World.drew]
 have Hwt:Hid (wt m.phase ⟨id,sd,ty,p,q⟩=(ty==4)):=by
  show wt m.phase ⟨id,sd,ty,p,q⟩=(ty==4)
  rw[hph]
  unfold wt
  simp
 have f2:=rfield2 (.func (.func 123) #[] #[]) (.func (.func 124) #[] #[]) (.func (.func 125) #[] #[]) (.func (.func 126) #[] #[]) (.func (.func 127) #[] #[]) (.func (.func 128) #[] #[]) (.func (.func 129) #[] #[])
 have e2:=enters_of Tryz.func125 (by kernel_rfl) rfl
 clear hR h hb0 x1 x2 x3 x4 x5 href
 unfold cmv
 go_enter Tryz.func122,Tryz.ntmps122
 go_wp2_with fail
 refine zbq 21 22 (fun W=>W.cell? ⟨P,10,none⟩=some (.pointer (some ⟨b.K,0,none⟩))/\W.cell? ⟨P,6,none⟩=some (.int .i64 0)/\W.cell? ⟨w.heap.size,1,none⟩=some (.int .i64 (id:Nat))/\W.cell? ⟨w.heap.size,2,none⟩=some (.int .i64 (sd:Nat))/\W.cell? ⟨w.heap.size,3,none⟩=some (.int .i64 (ty:Nat))/\W.cell? ⟨w.heap.size,4,none⟩=some (.int .i64 (q:Nat))/\W.cell? ⟨w.heap.size,5,none⟩=some (.int .i64 (p:Nat))) (fun _=>True) zco ?_
 refine U0 (v:=?v0) 0 rfl (by kernel_rfl) (fun _ _ _ h=>h) (Or.inl ⟨by rfl,?hy0⟩) ⟨fun _=>hT,fun _=>trivial⟩ ?_
 case hy0=>(rintro w' _;go_simp;with_reducible rfl)
 refine U0 (v:=?v1) 1 rfl (by kernel_rfl) (fun _ _ _ h=>h) (Or.inl ⟨by rfl,?hy1⟩) ⟨fun _=>hT,fun _=>trivial⟩ ?_
 case hy1=>(rintro w' _;go_simp;with_reducible rfl)
 refine U0 (v:=?v2) 2 rfl (by kernel_rfl) (fun _ _ _ h=>h) (Or.inl ⟨by rfl,?hy2⟩) ⟨fun _=>hT,fun _=>trivial⟩ ?_
 case hy2=>(rintro w' _;go_simp;with_reducible rfl)
 refine U1 (v:=?v3) 3 rfl (by kernel_rfl) (fun _ _ _ h=>h) (Or.inl ⟨by rfl,?hy3⟩) ⟨fun _=>hT,fun _=>trivial⟩ ?_
 case hy3=>(rintro w' ⟨⟨z0,z1,z2,z3,z4,z5,z6⟩,_⟩;go_simp;with_reducible rfl)
 refine U0 (v:=?v4) 4 rfl (by kernel_rfl) (fun _ _ _ h=>h) (Or.inl ⟨by rfl,?hy4⟩) ⟨fun _=>hT,fun _=>trivial⟩ ?_
 case hy4=>(rintro w' _;go_simp;with_reducible rfl)
 refine zbt (v:=?v5) 5 [20,21] rfl (by kernel_rfl) (by kernel_rfl) (by kernel_rfl) (by kernel_rfl) (by kernel_rfl) (by kernel_rfl) (by kernel_rfl) (fun _ _ _ h=>h) (Or.inl ⟨by rfl,?hy5⟩) ⟨fun _=>hT,fun _=>trivial⟩ ?_
 case hy5=>(rintro w' ⟨⟨z0,z1,z2,z3,z4,z5,z6⟩,_⟩;go_simp;with_reducible rfl)
 refine U0 (v:=?v6) 6 rfl (by kernel_rfl) (fun _ _ _ h=>h) (Or.inl ⟨by rfl,?hy6⟩) ⟨fun _=>hT,fun _=>trivial⟩ ?_
 case hy6=>(rintro w' _;go_simp;with_reducible rfl)
 refine zbt (v:=?v7) 7 [20,21] rfl (by kernel_rfl) (by kernel_rfl) (by kernel_rfl) (by kernel_rfl) (by kernel_rfl) (by kernel_rfl) (by kernel_rfl) (fun _ _ _ h=>h) (Or.inl ⟨by rfl,?hy7⟩) ⟨fun _=>hT,fun _=>trivial⟩ ?_
 case hy7=>(rintro w' ⟨⟨z0,z1,z2,z3,z4,z5,z6⟩,_⟩;go_simp;with_reducible rfl)
 refine U0 (v:=?v8) 8 rfl (by kernel_rfl) (fun _ _ _ h=>h) (Or.inl ⟨by rfl,?hy8⟩) ⟨fun _=>hT,fun _=>trivial⟩ ?_
 case hy8=>(rintro w' _;go_simp;with_reducible rfl)
 refine zbt (v:=?v9) 9 [20,21] rfl (by kernel_rfl) (by kernel_rfl) (by kernel_rfl) (by kernel_rfl) (by kernel_rfl) (by kernel_rfl) (by kernel_rfl) (fun _ _ _ h=>h) (Or.inl ⟨by rfl,?hy9⟩) ⟨fun _=>hT,fun _=>trivial⟩ ?_
 case hy9=>(rintro w' ⟨⟨z0,z1,z2,z3,z4,z5,z6⟩,_⟩;go_simp;with_reducible rfl)
 refine U0 (v:=?v10) 10 rfl (by kernel_rfl) (fun _ _ _ h=>h) (Or.inl ⟨by rfl,?hy10⟩) ⟨fun _=>hT,fun _=>trivial⟩ ?_
 case hy10=>(rintro w' _;go_simp;with_reducible rfl)
 refine zbt (v:=?v11) 11 [20,21] rfl (by kernel_rfl) (by kernel_rfl) (by kernel_rfl) (by kernel_rfl) (by kernel_rfl) (by kernel_rfl) (by kernel_rfl) (fun _ _ _ h=>h) (Or.inl ⟨by rfl,?hy11⟩) ⟨fun _=>hT,fun _=>trivial⟩ ?_
 case hy11=>(rintro w' ⟨⟨z0,z1,z2,z3,z4,z5,z6⟩,_⟩;go_simp;with_reducible rfl)
 refine U0 (v:=?v12) 12 rfl (by kernel_rfl) (fun _ _ _ h=>h) (Or.inl ⟨by rfl,?hy12⟩) ⟨fun _=>hT,fun _=>trivial⟩ ?_
 case hy12=>(rintro w' _;go_simp;with_reducible rfl)
 refine zbt (v:=?v13) 13 [20,21] rfl (by kernel_rfl) (by kernel_rfl) (by kernel_rfl) (by kernel_rfl) (by kernel_rfl) (by kernel_rfl) (by kernel_rfl) (fun _ _ _ h=>h) (Or.inl ⟨by rfl,?hy13⟩) ⟨fun _=>hT,fun _=>trivial⟩ ?_
 case hy13=>(rintro w' ⟨⟨z0,z1,z2,z3,z4,z5,z6⟩,_⟩;go_simp;with_reducible rfl)
 refine U0 (v:=?v14) 14 rfl (by kernel_rfl) (fun _ _ _ h=>h) (Or.inl ⟨by rfl,?hy14⟩) ⟨fun _=>hT,fun _=>trivial⟩ ?_
 case hy14=>(rintro w' _;go_simp;with_reducible rfl)
 refine U0 (v:=?v17) 17 rfl (by kernel_rfl) (fun _ _ _ h=>h) (Or.inl ⟨by rfl,?hy17⟩) ⟨fun _=>hT,fun _=>trivial⟩ ?_
 case hy17=>(rintro w' _;go_simp;with_reducible rfl)
 refine zbt (v:=?v18) 18 [19,20,21] rfl (by kernel_rfl) (by kernel_rfl) (by kernel_rfl) (by kernel_rfl) (by kernel_rfl) (by kernel_rfl) (by kernel_rfl) (fun _ _ _ h=>h) (Or.inl ⟨by rfl,?hy18⟩) ⟨fun _=>hT,fun _=>trivial⟩ ?_
 case hy18=>(rintro w' ⟨⟨z0,z1,z2,z3,z4,z5,z6⟩,_⟩;go_simp;with_reducible rfl)
 generalize (w.alloc (.cells #[.int .i64 (k:Nat),.int .i64 (id:Nat),.int .i64 (sd:Nat),.int .i64 (ty:Nat),.int .i64 (q:Nat),.int .i64 (p:Nat),.int .i64 (t:Nat)] 113)).drew=A at *
 refine za1 15 (by kernel_rfl) rfl (fun K' hK=>?_)
 go_simp
 obtain ⟨z0,z1,z2,z3,z4,z5,z6⟩:=hT
 refine zdw P _ _ z1 ?_
 intro w1 hb1
 have hT:w1.cell? ⟨P,10,none⟩=some (.pointer (some ⟨b.K,0,none⟩))/\w1.cell? ⟨P,6,none⟩=some (.int .i64 0)/\w1.cell? ⟨w.heap.size,1,none⟩=some (.int .i64 (id:Nat))/\w1.cell? ⟨w.heap.size,2,none⟩=some (.int .i64 (sd:Nat))/\w1.cell? ⟨w.heap.size,3,none⟩=some (.int .i64 (ty:Nat))/\w1.cell? ⟨w.heap.size,4,none⟩=some (.int .i64 (q:Nat))/\w1.cell? ⟨w.heap.size,5,none⟩=some (.int .i64 (p:Nat)):=⟨zaa hb1 z0,zaa hb1 z1,zaa hb1 z2,zaa hb1 z3,zaa hb1 z4,zaa hb1 z5,zaa hb1 z6⟩
 unfold zay fnv
 refine hK.o _ _ ⟨fun _=>hT,fun _=>trivial⟩ ?_
 clear hK K' z0 z1 z2 z3 z4 z5 z6
 have hbA1:Below w.heap.size w w1:=zad hbA hb1
 have hs1:w.heap.size+1<=w1.heap.size:=by have:=hb1.size;omega
 clear hb1 hbA hsA
 refine za1 16 (by kernel_rfl) rfl (fun K' hK=>?_)
 go_simp
 refine hK.o _ _ ⟨fun _=>hT,fun _=>trivial⟩ ?_
 clear hK K'
 refine za1 19 (by kernel_rfl) rfl (fun K' hK=>?_)
 go_simp
 refine pisLoc_any ty _ _ ?_
 refine hK.o _ _ ⟨fun _=>hT,fun _=>trivial⟩ ?_
 clear hK K' f2 e2
 refine za1 20 (by kernel_rfl) rfl (fun K' hK=>?_)
 go_simp
 refine hK.o _ _ ⟨fun _=>hT,fun _=>trivial⟩ ?_
 clear hK K'
 refine za1 21 (by kernel_rfl) rfl (fun K' hK=>?_)
 go_simp
 have hps1:=HP.o.ext hbA1
 refine bAdd_of b m.phase m.all ⟨id,sd,ty,p,q⟩ _ (by unfold ordv;rw[Hwt.o]) _ _ hps1.pm.book HP.o.pv.one (by omega) hsd hid hc1 (fun s hs i hi=>((HP.o.pv.qd s hs).inn i hi).1) ?_
 intro E v' kk w2 hE hB2 hkk hk1 hk2 ht2 hv2
 refine hK.o _ _ ⟨fun h=>absurd h (by decide),fun _=>trivial⟩ ?_
 clear hK K'
 refine za1 22 (by kernel_rfl) rfl (fun K' hK=>?_)
 go_simp
 refine hK.o _ _ ⟨fun h=>absurd h (by decide),fun h=>absurd h (by decide)⟩ ?_
 clear hK K'
 refine zch (by kernel_rfl) ?_
 have hMn: ¬(b.T P\/P=b.M):=fun e=>HP.o.pm.own (by
  rcases e with e|e
  .exact bt_F e
  .exact .inr (.inl e))
 have hDn: ¬(b.T w.heap.size\/w.heap.size=b.M):=fun e=>by
  have:b.F w.heap.size:=by
   rcases e with e|e
   .exact bt_F e
   .exact .inr (.inl e)
  have:=HP.o.pm.book.lt this
  omega
 have hps2:PS w2 P (b.added E v' kk m.all.length sd) c (zbl m ⟨id,sd,ty,p,q⟩) s0:=by
  refine⟨⟨(ht2.blk P hps1.ltP hMn).trans hps1.pm.blk,hB2,fun e=>?_⟩,?_,HP.o.ph⟩
  .rcases zix hE hv2 hsd P e with e|e
   .exact HP.o.pm.own e
   .have:=hps1.ltP;omega
  .have:=HP.o.pv.add (o:=⟨id,sd,ty,p,q⟩) hok hty hid hnew hrest hl (by have:q+zba m.all sd<=c.total:=htot;show q+zba m.all sd<=1000000000;omega) E v' kk hkk hk1 hk2
   exact this.keep rfl (HP.o.pv.gd.tell (mkev 1 0 id 0 0 0 q 0 0 0)).seq HP.o.pv.gd.ref
 have hmv2:Mv P w b w2 (b.added E v' kk m.all.length sd):=by
  refine⟨(Tch.of hbA1).trans (ht2.own fun g hg=>?_),fun g hg=>?_⟩
  .rcases hg with e|e
   .exact .inr (bt_F e)
   .exact .inr (.inr (.inl e))
  .rcases zix hE hv2 hsd g hg with e|e
   .exact .inl e
   .exact .inr (by omega)
 have hblkD: ∀j v,w1.cell? ⟨w.heap.size,j,none⟩=some v->w2.cell? ⟨w.heap.size,j,none⟩=some v:=fun j v hv=>(World.cell?_of_block (a:=⟨w.heap.size,j,none⟩) (ht2.blk _ (lll (Nat.lt_succ_self _) hs1) hDn)).trans hv
 have x1:=hblkD 1 _ hT.2.2.1
 have x4:=hblkD 4 _ hT.2.2.2.2.2.1
 have hs2:w.heap.size+1<=w2.heap.size:=llt hs1 ht2.size
 have HPS2:=zl hps2
 have HM2:=zl hmv2
 have hadr:(b.added E v' kk m.all.length sd).adr m.all.length=E:=if_pos rfl
 have hin:m.all.length∈(b.added E v' kk m.all.length sd).q sd:=by
  have hq:(b.added E v' kk m.all.length sd).q sd=(b.q sd).take kk++m.all.length::(b.q sd).drop kk:=if_pos rfl
  rw[hq]
  simp
 have HIn:=zl hin
 have Hadr:=zl hadr
 generalize b.added E v' kk m.all.length sd=b1 at *
 have hnth:nth (zbl m ⟨id,sd,ty,p,q⟩).all m.all.length=⟨id,sd,ty,p,q⟩:=zc2 _ _
 have Hnth:=zl hnth
 clear hps1 hps2 hmv2 hblkD hT hB2 hkk hk1 hk2 ht2 hv2 hbA1 hMn hDn hadr hin hnth
 go_wp2_with fail
 have hb3:=zac w2 (.cells #[.int .i64 1,.int .i64 0,.int .i64 (id:Nat),.int .i64 0,.int .i64 0,.int .i64 0,.int .i64 (q:Nat),.int .i64 0,.int .i64 0,.int .i64 0] 42)
 have HPS3:=zl (HPS2.o.ext hb3)
 have HM3:Hid (Mv P w b (w2.alloc (.cells #[.int .i64 1,.int .i64 0,.int .i64 (id:Nat),.int .i64 0,.int .i64 0,.int .i64 0,.int .i64 (q:Nat),.int .i64 0,.int .i64 0,.int .i64 0] 42)) b1):=HM2.o.trans (Mv.of hb3)
 have Hev3:Hid (Evs (w2.alloc (.cells #[.int .i64 1,.int .i64 0,.int .i64 (id:Nat),.int .i64 0,.int .i64 0,.int .i64 0,.int .i64 (q:Nat),.int .i64 0,.int .i64 0,.int .i64 0] 42)) w2.heap.size (.slice (some ⟨w2.heap.size,0,none⟩) 1 1) [mkev 1 0 id 0 0 0 q 0 0 0]):=
  ⟨by simp[evcs,evc],.inr ⟨w2.heap.size,1,_,rfl,nr,World.alloc_heap_new w2 _,nr,by decide,rfl,by simp[evcs,evc,iv,List.range,List.range.loop,mkev]⟩⟩
 have hlow: ∀g,Own P b1 g->g<w2.heap.size:=fun g hg=>HPS2.o.lt hg
 have Hlow:=zl hlow
 have c6:=HPS3.o.pm.cells 6 (.int .i64 (m.phase:Nat)) rfl
 rw[hph] at c6
 have hs3:w2.heap.size<=(w2.alloc (.cells #[.int .i64 1,.int .i64 0,.int .i64 (id:Nat),.int .i64 0,.int .i64 0,.int .i64 0,.int .i64 (q:Nat),.int .i64 0,.int .i64 0,.int .i64 0] 42)).heap.size:=hb3.size
 clear hb3 hlow x1 x4
 generalize hn2:w2.heap.size=n2 at *
 generalize w2.alloc (.cells #[.int .i64 1,.int .i64 0,.int .i64 (id:Nat),.int .i64 0,.int .i64 0,.int .i64 0,.int .i64 (q:Nat),.int .i64 0,.int .i64 0,.int .i64 0] 42)=W3 at *
 refine zdw P _ _ c6 ?_
 intro w4 hb4
 have HPS4:=zl (HPS3.o.ext hb4)
 have HM4:Hid (Mv P w b w4 b1):=HM3.o.trans (Mv.of hb4)
 have Hev4:=zl (Hev3.o.ext hb4)
 have hs4:n2<=w4.heap.size:=llt hs3 hb4.size
 clear hb4 c6 HPS3 HM3 Hev3
 unfold zay fnv
 have f3:=rfield3 (.func (.func 123) #[] #[]) (.func (.func 124) #[] #[]) (.func (.func 125) #[] #[]) (.func (.func 126) #[] #[]) (.func (.func 127) #[] #[]) (.func (.func 128) #[] #[]) (.func (.func 129) #[] #[])
 have e3:=enters_of Tryz.func126 (by kernel_rfl) rfl
 go_wp2_with fail
 refine prest_any _ _ _ _ ?_
 obtain ⟨vj,wj,hj,hjE,hjg⟩:=zd0 32 Hev4.o (Evs.nil w4 0) (by simp) hs4
 have hfin:Hid (R (.returned vj) wj):=by
  have hacc:zbr m ⟨id,sd,ty,p,q⟩=zbl m ⟨id,sd,ty,p,q⟩:=by
   unfold zbr
   rw[if_neg (by omega)]
  have hlowj: ∀g,Own P b1 g->g<n2:=Hlow.o
  rw[hacc] at HR
  refine HR.o b1 vj ([mkev 1 0 id 0 0 0 q 0 0 0]++[]) wj (HPS4.o.grown hjg Hev4.o hlowj) ⟨zdh _ w HM4.o.tch hjg Hev4.o (by omega),HM4.o.bf⟩ (hjE.low (by omega)) (fun g hg e=>?_) ?_ (by simp)
  .have h1:=(World.ownsRow.lt hjE g e).1
   have h2:=hlowj g hg
   omega
  .rw[show outs (zbl m ⟨id,sd,ty,p,q⟩)=outs m++[mkev 1 0 id 0 0 0 q 0 0 0] from zf9 _ _ _ _ _ _ _ _ _ _]
   rfl
 clear hjE hjg HPS4 HM4 Hev4 f3 e3
 go_wp2_with (at_builtin;refine wpList_append_run _ rfl _ _ _ _ rfl _ _ rfl rfl _ _ hj ?_)
 exact hfin.o
theorem paccept1_any (P:Nat)(b:Bk)(c:Cf)(m:Mk)(s0 k id sd ty q p t:Nat)(w:World)(R:EW)(h:PS w P b c m s0)(hty:1<=ty/\ty<=4)(hsd:isSd sd)(hid:id<=4294967295)(href:zbc c m ⟨id,sd,ty,p,q⟩=0)(hl:m.all.length<=1048575)(hct:c.total<=1000000000)(hph:m.phase=1)
  (hR: ∀b' v E w',PS w' P b' c (zbr m ⟨id,sd,ty,p,q⟩) s0->Mv P w b w' b'->Evs w' w.heap.size v E->(∀g,Own P b' g->v.ownBlock≠some g)->outs (zbr m ⟨id,sd,ty,p,q⟩)=outs m++E->E.length<=1048578->R (.returned v) w'):
  Calls Tryz.prog 122 #[.pointer (some ⟨P,0,none⟩),cmv k id sd ty q p t] w R:=by
 have HR:=zl hR
 have HP:=zl h
 have hlP:=h.ltP
 obtain ⟨hok,hnew,hrest,htot,_,_⟩:=zet (c:=c) (m:=m) (o:=⟨id,sd,ty,p,q⟩) hty hsd href
 have hcnt:=h.pv.count
 have hlv:zap m.all<=m.all.length:=List.length_filter_le _ _
 have hc1:(b.q sd).length+1<=1048576:=by rcases hsd with rfl|rfl<;>omega
 have hb0:=zac w (.cells #[.int .i64 (k:Nat),.int .i64 (id:Nat),.int .i64 (sd:Nat),.int .i64 (ty:Nat),.int .i64 (q:Nat),.int .i64 (p:Nat),.int .i64 (t:Nat)] 113)
 obtain ⟨_,x1,x2,x3,x4,x5,_⟩:=zc9 (World.alloc_heap_new w (.cells #[.int .i64 (k:Nat),.int .i64 (id:Nat),.int .i64 (sd:Nat),.int .i64 (ty:Nat),.int .i64 (q:Nat),.int .i64 (p:Nat),.int .i64 (t:Nat)] 113))
 have hT:(w.alloc (.cells #[.int .i64 (k:Nat),.int .i64 (id:Nat),.int .i64 (sd:Nat),.int .i64 (ty:Nat),.int .i64 (q:Nat),.int .i64 (p:Nat),.int .i64 (t:Nat)] 113)).drew.cell? ⟨P,10,none⟩=some (.pointer (some ⟨b.K,0,none⟩))/\(w.alloc (.cells #[.int .i64 (k:Nat),.int .i64 (id:Nat),.int .i64 (sd:Nat),.int .i64 (ty:Nat),.int .i64 (q:Nat),.int .i64 (p:Nat),.int .i64 (t:Nat)] 113)).drew.cell? ⟨P,6,none⟩=some (.int .i64 1)/\(w.alloc (.cells #[.int .i64 (k:Nat),.int .i64 (id:Nat),.int .i64 (sd:Nat),.int .i64 (ty:Nat),.int .i64 (q:Nat),.int .i64 (p:Nat),.int .i64 (t:Nat)] 113)).drew.cell? ⟨w.heap.size,1,none⟩=some (.int .i64 (id:Nat))/\(w.alloc (.cells #[.int .i64 (k:Nat),.int .i64 (id:Nat),.int .i64 (sd:Nat),.int .i64 (ty:Nat),.int .i64 (q:Nat),.int .i64 (p:Nat),.int .i64 (t:Nat)] 113)).drew.cell? ⟨w.heap.size,2,none⟩=some (.int .i64 (sd:Nat))/\(w.alloc (.cells #[.int .i64 (k:Nat),.int .i64 (id:Nat),.int .i64 (sd:Nat),.int .i64 (ty:Nat),.int .i64 (q:Nat),.int .i64 (p:Nat),.int .i64 (t:Nat)] 113)).drew.cell? ⟨w.heap.size,3,none⟩=some (.int .i64 (ty:Nat))/\(w.alloc (.cells #[.int .i64 (k:Nat),.int .i64 (id:Nat),.int .i64 (sd:Nat),.int .i64 (ty:Nat),.int .i64 (q:Nat),.int .i64 (p:Nat),.int .i64 (t:Nat)] 113)).drew.cell? ⟨w.heap.size,4,none⟩=some (.int .i64 (q:Nat))/\(w.alloc (.cells #[.int .i64 (k:Nat),.int .i64 (id:Nat),.int .i64 (sd:Nat),.int .i64 (ty:Nat),.int .i64 (q:Nat),.int .i64 (p:Nat),.int .i64 (t:Nat)] 113)).drew.cell? ⟨w.heap.size,5,none⟩=some (.int .i64 (p:Nat)):=⟨zaa hb0.drew (h.pm.cells 10 _ rfl),(by have c6:=zaa hb0.drew (h.pm.cells 6 (.int .i64 (m.phase:Nat)) rfl);rw[hph] at c6;exact c6),x1,x2,x3,x4,x5⟩
 have hbA:Below w.heap.size w (w.alloc (.cells #[.int .i64 (k:Nat),.int .i64 (id:Nat),.int .i64 (sd:Nat),.int .i64 (ty:Nat),.int .i64 (q:Nat),.int .i64 (p:Nat),.int .i64 (t:Nat)] 113)).drew:=hb0.drew
 have hsA:(w.alloc (.cells #[.int .i64 (k:Nat),.int .i64 (id:Nat),.int .i64 (sd:Nat),.int .i64 (ty:Nat),.int .i64 (q:Nat),.int .i64 (p:Nat),.int .i64 (t:Nat)] 113)).drew.heap.size=w.heap.size+1:=by simp[World.drew]
 have Hwt:Hid (wt m.phase ⟨id,sd,ty,p,q⟩=(ty==4)):=by
  show wt m.phase ⟨id,sd,ty,p,q⟩=(ty==4)
  rw[hph]
  unfold wt
  simp
 have f2:=rfield2 (.func (.func 130) #[] #[]) (.func (.func 131) #[] #[]) (.func (.func 125) #[] #[]) (.func (.func 132) #[] #[]) (.func (.func 129) #[] #[]) (.func (.func 129) #[] #[]) (.func (.func 133) #[] #[])
 have e2:=enters_of Tryz.func125 (by kernel_rfl) rfl
 clear hR h hb0 x1 x2 x3 x4 x5 href
 unfold cmv
 go_enter Tryz.func122,Tryz.ntmps122
 go_wp2_with fail
 refine zbq 21 22 (fun W=>W.cell? ⟨P,10,none⟩=some (.pointer (some ⟨b.K,0,none⟩))/\W.cell? ⟨P,6,none⟩=some (.int .i64 1)/\W.cell? ⟨w.heap.size,1,none⟩=some (.int .i64 (id:Nat))/\W.cell? ⟨w.heap.size,2,none⟩=some (.int .i64 (sd:Nat))/\W.cell? ⟨w.heap.size,3,none⟩=some (.int .i64 (ty:Nat))/\W.cell? ⟨w.heap.size,4,none⟩=some (.int .i64 (q:Nat))/\W.cell? ⟨w.heap.size,5,none⟩=some (.int .i64 (p:Nat))) (fun _=>True) zco ?_
 refine U0 (v:=?v0) 0 rfl (by kernel_rfl) (fun _ _ _ h=>h) (Or.inl ⟨by rfl,?hy0⟩) ⟨fun _=>hT,fun _=>trivial⟩ ?_
 case hy0=>(rintro w' _;go_simp;with_reducible rfl)
 refine U0 (v:=?v1) 1 rfl (by kernel_rfl) (fun _ _ _ h=>h) (Or.inl ⟨by rfl,?hy1⟩) ⟨fun _=>hT,fun _=>trivial⟩ ?_
 case hy1=>(rintro w' _;go_simp;with_reducible rfl)
 refine U0 (v:=?v2) 2 rfl (by kernel_rfl) (fun _ _ _ h=>h) (Or.inl ⟨by rfl,?hy2⟩) ⟨fun _=>hT,fun _=>trivial⟩ ?_
 case hy2=>(rintro w' _;go_simp;with_reducible rfl)
 refine U1 (v:=?v3) 3 rfl (by kernel_rfl) (fun _ _ _ h=>h) (Or.inl ⟨by rfl,?hy3⟩) ⟨fun _=>hT,fun _=>trivial⟩ ?_
 case hy3=>(rintro w' ⟨⟨z0,z1,z2,z3,z4,z5,z6⟩,_⟩;go_simp;with_reducible rfl)
 refine U0 (v:=?v4) 4 rfl (by kernel_rfl) (fun _ _ _ h=>h) (Or.inl ⟨by rfl,?hy4⟩) ⟨fun _=>hT,fun _=>trivial⟩ ?_
 case hy4=>(rintro w' _;go_simp;with_reducible rfl)
 refine zbt (v:=?v5) 5 [20,21] rfl (by kernel_rfl) (by kernel_rfl) (by kernel_rfl) (by kernel_rfl) (by kernel_rfl) (by kernel_rfl) (by kernel_rfl) (fun _ _ _ h=>h) (Or.inl ⟨by rfl,?hy5⟩) ⟨fun _=>hT,fun _=>trivial⟩ ?_
 case hy5=>(rintro w' ⟨⟨z0,z1,z2,z3,z4,z5,z6⟩,_⟩;go_simp;with_reducible rfl)
 refine U0 (v:=?v6) 6 rfl (by kernel_rfl) (fun _ _ _ h=>h) (Or.inl ⟨by rfl,?hy6⟩) ⟨fun _=>hT,fun _=>trivial⟩ ?_
 case hy6=>(rintro w' _;go_simp;with_reducible rfl)
 refine zbt (v:=?v7) 7 [20,21] rfl (by kernel_rfl) (by kernel_rfl) (by kernel_rfl) (by kernel_rfl) (by kernel_rfl) (by kernel_rfl) (by kernel_rfl) (fun _ _ _ h=>h) (Or.inl ⟨by rfl,?hy7⟩) ⟨fun _=>hT,fun _=>trivial⟩ ?_
 case hy7=>(rintro w' ⟨⟨z0,z1,z2,z3,z4,z5,z6⟩,_⟩;go_simp;with_reducible rfl)
 refine U0 (v:=?v8) 8 rfl (by kernel_rfl) (fun _ _ _ h=>h) (Or.inl ⟨by rfl,?hy8⟩) ⟨fun _=>hT,fun _=>trivial⟩ ?_
 case hy8=>(rintro w' _;go_simp;with_reducible rfl)
 refine zbt (v:=?v9) 9 [20,21] rfl (by kernel_rfl) (by kernel_rfl) (by kernel_rfl) (by kernel_rfl) (by kernel_rfl) (by kernel_rfl) (by kernel_rfl) (fun _ _ _ h=>h) (Or.inl ⟨by rfl,?hy9⟩) ⟨fun _=>hT,fun _=>trivial⟩ ?_
 case hy9=>(rintro w' ⟨⟨z0,z1,z2,z3,z4,z5,z6⟩,_⟩;go_simp;with_reducible rfl)
 refine U0 (v:=?v10) 10 rfl (by kernel_rfl) (fun _ _ _ h=>h) (Or.inl ⟨by rfl,?hy10⟩) ⟨fun _=>hT,fun _=>trivial⟩ ?_
 case hy10=>(rintro w' _;go_simp;with_reducible rfl)
 refine zbt (v:=?v11) 11 [20,21] rfl (by kernel_rfl) (by kernel_rfl) (by kernel_rfl) (by kernel_rfl) (by kernel_rfl) (by kernel_rfl) (by kernel_rfl) (fun _ _ _ h=>h) (Or.inl ⟨by rfl,?hy11⟩) ⟨fun _=>hT,fun _=>trivial⟩ ?_
 case hy11=>(rintro w' ⟨⟨z0,z1,z2,z3,z4,z5,z6⟩,_⟩;go_simp;with_reducible rfl)
 refine U0 (v:=?v12) 12 rfl (by kernel_rfl) (fun _ _ _ h=>h) (Or.inl ⟨by rfl,?hy12⟩) ⟨fun _=>hT,fun _=>trivial⟩ ?_
 case hy12=>(rintro w' _;go_simp;with_reducible rfl)
 refine zbt (v:=?v13) 13 [20,21] rfl (by kernel_rfl) (by kernel_rfl) (by kernel_rfl) (by kernel_rfl) (by kernel_rfl) (by kernel_rfl) (by kernel_rfl) (fun _ _ _ h=>h) (Or.inl ⟨by rfl,?hy13⟩) ⟨fun _=>hT,fun _=>trivial⟩ ?_
 case hy13=>(rintro w' ⟨⟨z0,z1,z2,z3,z4,z5,z6⟩,_⟩;go_simp;with_reducible rfl)
 refine U0 (v:=?v14) 14 rfl (by kernel_rfl) (fun _ _ _ h=>h) (Or.inl ⟨by rfl,?hy14⟩) ⟨fun _=>hT,fun _=>trivial⟩ ?_
 case hy14=>(rintro w' _;go_simp;with_reducible rfl)
 refine U0 (v:=?v17) 17 rfl (by kernel_rfl) (fun _ _ _ h=>h) (Or.inl ⟨by rfl,?hy17⟩) ⟨fun _=>hT,fun _=>trivial⟩ ?_
 case hy17=>(rintro w' _;go_simp;with_reducible rfl)
 refine zbt (v:=?v18) 18 [19,20,21] rfl (by kernel_rfl) (by kernel_rfl) (by kernel_rfl) (by kernel_rfl) (by kernel_rfl) (by kernel_rfl) (by kernel_rfl) (fun _ _ _ h=>h) (Or.inl ⟨by rfl,?hy18⟩) ⟨fun _=>hT,fun _=>trivial⟩ ?_
 case hy18=>(rintro w' ⟨⟨z0,z1,z2,z3,z4,z5,z6⟩,_⟩;go_simp;with_reducible rfl)
 generalize (w.alloc (.cells #[.int .i64 (k:Nat),.int .i64 (id:Nat),.int .i64 (sd:Nat),.int .i64 (ty:Nat),.int .i64 (q:Nat),.int .i64 (p:Nat),.int .i64 (t:Nat)] 113)).drew=A at *
 refine za1 15 (by kernel_rfl) rfl (fun K' hK=>?_)
 go_simp
 obtain ⟨z0,z1,z2,z3,z4,z5,z6⟩:=hT
 refine zde P _ _ z1 ?_
 intro w1 hb1
 have hT:w1.cell? ⟨P,10,none⟩=some (.pointer (some ⟨b.K,0,none⟩))/\w1.cell? ⟨P,6,none⟩=some (.int .i64 1)/\w1.cell? ⟨w.heap.size,1,none⟩=some (.int .i64 (id:Nat))/\w1.cell? ⟨w.heap.size,2,none⟩=some (.int .i64 (sd:Nat))/\w1.cell? ⟨w.heap.size,3,none⟩=some (.int .i64 (ty:Nat))/\w1.cell? ⟨w.heap.size,4,none⟩=some (.int .i64 (q:Nat))/\w1.cell? ⟨w.heap.size,5,none⟩=some (.int .i64 (p:Nat)):=⟨zaa hb1 z0,zaa hb1 z1,zaa hb1 z2,zaa hb1 z3,zaa hb1 z4,zaa hb1 z5,zaa hb1 z6⟩
 unfold zay fnv
 refine hK.o _ _ ⟨fun _=>hT,fun _=>trivial⟩ ?_
 clear hK K' z0 z1 z2 z3 z4 z5 z6
 have hbA1:Below w.heap.size w w1:=zad hbA hb1
 have hs1:w.heap.size+1<=w1.heap.size:=by have:=hb1.size;omega
 clear hb1 hbA hsA
 refine za1 16 (by kernel_rfl) rfl (fun K' hK=>?_)
 go_simp
 refine hK.o _ _ ⟨fun _=>hT,fun _=>trivial⟩ ?_
 clear hK K'
 refine za1 19 (by kernel_rfl) rfl (fun K' hK=>?_)
 go_simp
 refine pisLoc_any ty _ _ ?_
 refine hK.o _ _ ⟨fun _=>hT,fun _=>trivial⟩ ?_
 clear hK K' f2 e2
 refine za1 20 (by kernel_rfl) rfl (fun K' hK=>?_)
 go_simp
 refine hK.o _ _ ⟨fun _=>hT,fun _=>trivial⟩ ?_
 clear hK K'
 refine za1 21 (by kernel_rfl) rfl (fun K' hK=>?_)
 go_simp
 have hps1:=HP.o.ext hbA1
 refine bAdd_of b m.phase m.all ⟨id,sd,ty,p,q⟩ _ (by unfold ordv;rw[Hwt.o]) _ _ hps1.pm.book HP.o.pv.one (by omega) hsd hid hc1 (fun s hs i hi=>((HP.o.pv.qd s hs).inn i hi).1) ?_
 intro E v' kk w2 hE hB2 hkk hk1 hk2 ht2 hv2
 refine hK.o _ _ ⟨fun h=>absurd h (by decide),fun _=>trivial⟩ ?_
 clear hK K'
 refine za1 22 (by kernel_rfl) rfl (fun K' hK=>?_)
 go_simp
 refine hK.o _ _ ⟨fun h=>absurd h (by decide),fun h=>absurd h (by decide)⟩ ?_
 clear hK K'
 refine zch (by kernel_rfl) ?_
 have hMn: ¬(b.T P\/P=b.M):=fun e=>HP.o.pm.own (by
  rcases e with e|e
  .exact bt_F e
  .exact .inr (.inl e))
 have hDn: ¬(b.T w.heap.size\/w.heap.size=b.M):=fun e=>by
  have:b.F w.heap.size:=by
   rcases e with e|e
   .exact bt_F e
   .exact .inr (.inl e)
  have:=HP.o.pm.book.lt this
  omega
 have hps2:PS w2 P (b.added E v' kk m.all.length sd) c (zbl m ⟨id,sd,ty,p,q⟩) s0:=by
  refine⟨⟨(ht2.blk P hps1.ltP hMn).trans hps1.pm.blk,hB2,fun e=>?_⟩,?_,HP.o.ph⟩
  .rcases zix hE hv2 hsd P e with e|e
   .exact HP.o.pm.own e
   .have:=hps1.ltP;omega
  .have:=HP.o.pv.add (o:=⟨id,sd,ty,p,q⟩) hok hty hid hnew hrest hl (by have:q+zba m.all sd<=c.total:=htot;show q+zba m.all sd<=1000000000;omega) E v' kk hkk hk1 hk2
   exact this.keep rfl (HP.o.pv.gd.tell (mkev 1 0 id 0 0 0 q 0 0 0)).seq HP.o.pv.gd.ref
 have hmv2:Mv P w b w2 (b.added E v' kk m.all.length sd):=by
  refine⟨(Tch.of hbA1).trans (ht2.own fun g hg=>?_),fun g hg=>?_⟩
  .rcases hg with e|e
   .exact .inr (bt_F e)
   .exact .inr (.inr (.inl e))
  .rcases zix hE hv2 hsd g hg with e|e
   .exact .inl e
   .exact .inr (by omega)
 have hblkD: ∀j v,w1.cell? ⟨w.heap.size,j,none⟩=some v->w2.cell? ⟨w.heap.size,j,none⟩=some v:=fun j v hv=>(World.cell?_of_block (a:=⟨w.heap.size,j,none⟩) (ht2.blk _ (lll (Nat.lt_succ_self _) hs1) hDn)).trans hv
 have x1:=hblkD 1 _ hT.2.2.1
 have x4:=hblkD 4 _ hT.2.2.2.2.2.1
 have hs2:w.heap.size+1<=w2.heap.size:=llt hs1 ht2.size
 have HPS2:=zl hps2
 have HM2:=zl hmv2
 have hadr:(b.added E v' kk m.all.length sd).adr m.all.length=E:=if_pos rfl
 have hin:m.all.length∈(b.added E v' kk m.all.length sd).q sd:=by
  have hq:(b.added E v' kk m.all.length sd).q sd=(b.q sd).take kk++m.all.length::(b.q sd).drop kk:=if_pos rfl
  rw[hq]
  simp
 have HIn:=zl hin
 have Hadr:=zl hadr
 generalize b.added E v' kk m.all.length sd=b1 at *
 have hnth:nth (zbl m ⟨id,sd,ty,p,q⟩).all m.all.length=⟨id,sd,ty,p,q⟩:=zc2 _ _
 have Hnth:=zl hnth
 clear hps1 hps2 hmv2 hblkD hT hB2 hkk hk1 hk2 ht2 hv2 hbA1 hMn hDn hadr hin hnth
 go_wp2_with fail
 have hb3:=zac w2 (.cells #[.int .i64 1,.int .i64 0,.int .i64 (id:Nat),.int .i64 0,.int .i64 0,.int .i64 0,.int .i64 (q:Nat),.int .i64 0,.int .i64 0,.int .i64 0] 42)
 have HPS3:=zl (HPS2.o.ext hb3)
 have HM3:Hid (Mv P w b (w2.alloc (.cells #[.int .i64 1,.int .i64 0,.int .i64 (id:Nat),.int .i64 0,.int .i64 0,.int .i64 0,.int .i64 (q:Nat),.int .i64 0,.int .i64 0,.int .i64 0] 42)) b1):=HM2.o.trans (Mv.of hb3)
 have Hev3:Hid (Evs (w2.alloc (.cells #[.int .i64 1,.int .i64 0,.int .i64 (id:Nat),.int .i64 0,.int .i64 0,.int .i64 0,.int .i64 (q:Nat),.int .i64 0,.int .i64 0,.int .i64 0] 42)) w2.heap.size (.slice (some ⟨w2.heap.size,0,none⟩) 1 1) [mkev 1 0 id 0 0 0 q 0 0 0]):=
  ⟨by simp[evcs,evc],.inr ⟨w2.heap.size,1,_,rfl,nr,World.alloc_heap_new w2 _,nr,by decide,rfl,by simp[evcs,evc,iv,List.range,List.range.loop,mkev]⟩⟩
 have hlow: ∀g,Own P b1 g->g<w2.heap.size:=fun g hg=>HPS2.o.lt hg
 have Hlow:=zl hlow
 have c6:=HPS3.o.pm.cells 6 (.int .i64 (m.phase:Nat)) rfl
 rw[hph] at c6
 have hs3:w2.heap.size<=(w2.alloc (.cells #[.int .i64 1,.int .i64 0,.int .i64 (id:Nat),.int .i64 0,.int .i64 0,.int .i64 0,.int .i64 (q:Nat),.int .i64 0,.int .i64 0,.int .i64 0] 42)).heap.size:=hb3.size
 clear hb3 hlow x1 x4
 generalize hn2:w2.heap.size=n2 at *
 generalize w2.alloc (.cells #[.int .i64 1,.int .i64 0,.int .i64 (id:Nat),.int .i64 0,.int .i64 0,.int .i64 0,.int .i64 (q:Nat),.int .i64 0,.int .i64 0,.int .i64 0] 42)=W3 at *
 refine zde P _ _ c6 ?_
 intro w4 hb4
 have HPS4:=zl (HPS3.o.ext hb4)
 have HM4:Hid (Mv P w b w4 b1):=HM3.o.trans (Mv.of hb4)
 have Hev4:=zl (Hev3.o.ext hb4)
 have hs4:n2<=w4.heap.size:=llt hs3 hb4.size
 clear hb4 c6 HPS3 HM3 Hev3
 unfold zay fnv
 have f3:=rfield3 (.func (.func 130) #[] #[]) (.func (.func 131) #[] #[]) (.func (.func 125) #[] #[]) (.func (.func 132) #[] #[]) (.func (.func 129) #[] #[]) (.func (.func 129) #[] #[]) (.func (.func 133) #[] #[])
 have e3:=enters_of Tryz.func132 (by kernel_rfl) rfl
 go_wp2_with fail
 rw[←Hadr.o]
 refine pmeet_any P b1 c (zbl m ⟨id,sd,ty,p,q⟩) s0 m.all.length _ _ HPS4.o (by rw[Hnth.o];exact HIn.o) (by rw[Hnth.o];exact hsd) ?_
 intro b5 v5 E5 w5 hps5 hbf5 ht5 hev5 hou5 hel5
 have hev5':Evs w5 n2 (.slice (some ⟨n2,0,none⟩) 1 1) [mkev 1 0 id 0 0 0 q 0 0 0]:=Hev4.o.keep fun g hg hl=>ht5.blk g hl fun e=>by have:=Hlow.o g e;omega
 have hs5:n2<=w5.heap.size:=llt hs4 ht5.size
 have hmv5:Mv P w b w5 b5:=HM4.o.trans ⟨ht5,fun g hg=> .inl (hbf5 g hg)⟩
 obtain ⟨vj,wj,hj,hjE,hjg⟩:=zd0 32 hev5' (hev5.low (Nat.zero_le _)) (by simp;omega) hs5
 have hfin:Hid (R (.returned vj) wj):=by
  have hacc:zbr m ⟨id,sd,ty,p,q⟩=zhe (zbl m ⟨id,sd,ty,p,q⟩) m.all.length:=by
   unfold zbr
   rw[if_pos hph]
  have hlowj: ∀g,Own P b5 g->g<n2:=fun g hg=>Hlow.o g (by
   rcases hg with e|e
   .exact .inl e
   .exact .inr (hbf5 g e))
  rw[hacc] at HR
  refine HR.o b5 vj ([mkev 1 0 id 0 0 0 q 0 0 0]++E5) wj (hps5.grown hjg hev5' hlowj) ⟨zdh _ w hmv5.tch hjg hev5' (by omega),hmv5.bf⟩ (hjE.low (by omega)) (fun g hg e=>?_) ?_ (by simp;omega)
  .have h1:=(World.ownsRow.lt hjE g e).1
   have h2:=hlowj g hg
   omega
  .rw[hou5,show outs (zbl m ⟨id,sd,ty,p,q⟩)=outs m++[mkev 1 0 id 0 0 0 q 0 0 0] from zf9 _ _ _ _ _ _ _ _ _ _,List.append_assoc]
 obtain ⟨a5,k5,rfl⟩:=zae hev5
 clear hjE hjg hps5 hbf5 ht5 hev5 hou5 hev5' hmv5 HPS4 HM4 Hev4 f3 e3
 go_wp2_with (at_builtin;refine wpList_append_run _ rfl _ _ _ _ rfl _ _ rfl rfl _ _ hj ?_)
 exact hfin.o
theorem paccept2_any (P:Nat)(b:Bk)(c:Cf)(m:Mk)(s0 k id sd ty q p t:Nat)(w:World)(R:EW)(h:PS w P b c m s0)(hty:1<=ty/\ty<=4)(hsd:isSd sd)(hid:id<=4294967295)(href:zbc c m ⟨id,sd,ty,p,q⟩=0)(hl:m.all.length<=1048575)(hct:c.total<=1000000000)(hph:m.phase=2)
  (hR: ∀b' v E w',PS w' P b' c (zbr m ⟨id,sd,ty,p,q⟩) s0->Mv P w b w' b'->Evs w' w.heap.size v E->(∀g,Own P b' g->v.ownBlock≠some g)->outs (zbr m ⟨id,sd,ty,p,q⟩)=outs m++E->E.length<=1048578->R (.returned v) w'):
  Calls Tryz.prog 122 #[.pointer (some ⟨P,0,none⟩),cmv k id sd ty q p t] w R:=by
 have HR:=zl hR
 have HP:=zl h
 have hlP:=h.ltP
 obtain ⟨hok,hnew,hrest,htot,_,_⟩:=zet (c:=c) (m:=m) (o:=⟨id,sd,ty,p,q⟩) hty hsd href
 have hcnt:=h.pv.count
 have hlv:zap m.all<=m.all.length:=List.length_filter_le _ _
 have hc1:(b.q sd).length+1<=1048576:=by rcases hsd with rfl|rfl<;>omega
 have hb0:=zac w (.cells #[.int .i64 (k:Nat),.int .i64 (id:Nat),.int .i64 (sd:Nat),.int .i64 (ty:Nat),.int .i64 (q:Nat),.int .i64 (p:Nat),.int .i64 (t:Nat)] 113)
 obtain ⟨_,x1,x2,x3,x4,x5,_⟩:=zc9 (World.alloc_heap_new w (.cells #[.int .i64 (k:Nat),.int .i64 (id:Nat),.int .i64 (sd:Nat),.int .i64 (ty:Nat),.int .i64 (q:Nat),.int .i64 (p:Nat),.int .i64 (t:Nat)] 113))
 have hT:(w.alloc (.cells #[.int .i64 (k:Nat),.int .i64 (id:Nat),.int .i64 (sd:Nat),.int .i64 (ty:Nat),.int .i64 (q:Nat),.int .i64 (p:Nat),.int .i64 (t:Nat)] 113)).drew.cell? ⟨P,10,none⟩=some (.pointer (some ⟨b.K,0,none⟩))/\(w.alloc (.cells #[.int .i64 (k:Nat),.int .i64 (id:Nat),.int .i64 (sd:Nat),.int .i64 (ty:Nat),.int .i64 (q:Nat),.int .i64 (p:Nat),.int .i64 (t:Nat)] 113)).drew.cell? ⟨P,6,none⟩=some (.int .i64 2)/\(w.alloc (.cells #[.int .i64 (k:Nat),.int .i64 (id:Nat),.int .i64 (sd:Nat),.int .i64 (ty:Nat),.int .i64 (q:Nat),.int .i64 (p:Nat),.int .i64 (t:Nat)] 113)).drew.cell? ⟨w.heap.size,1,none⟩=some (.int .i64 (id:Nat))/\(w.alloc (.cells #[.int .i64 (k:Nat),.int .i64 (id:Nat),.int .i64 (sd:Nat),.int .i64 (ty:Nat),.int .i64 (q:Nat),.int .i64 (p:Nat),.int .i64 (t:Nat)] 113)).drew.cell? ⟨w.heap.size,2,none⟩=some (.int .i64 (sd:Nat))/\(w.alloc (.cells #[.int .i64 (k:Nat),.int .i64 (id:Nat),.int .i64 (sd:Nat),.int .i64 (ty:Nat),.int .i64 (q:Nat),.int .i64 (p:Nat),.int .i64 (t:Nat)] 113)).drew.cell? ⟨w.heap.size,3,none⟩=some (.int .i64 (ty:Nat))/\(w.alloc (.cells #[.int .i64 (k:Nat),.int .i64 (id:Nat),.int .i64 (sd:Nat),.int .i64 (ty:Nat),.int .i64 (q:Nat),.int .i64 (p:Nat),.int .i64 (t:Nat)] 113)).drew.cell? ⟨w.heap.size,4,none⟩=some (.int .i64 (q:Nat))/\(w.alloc (.cells #[.int .i64 (k:Nat),.int .i64 (id:Nat),.int .i64 (sd:Nat),.int .i64 (ty:Nat),.int .i64 (q:Nat),.int .i64 (p:Nat),.int .i64 (t:Nat)] 113)).drew.cell? ⟨w.heap.size,5,none⟩=some (.int .i64 (p:Nat)):=⟨zaa hb0.drew (h.pm.cells 10 _ rfl),(by have c6:=zaa hb0.drew (h.pm.cells 6 (.int .i64 (m.phase:Nat)) rfl);rw[hph] at c6;exact c6),x1,x2,x3,x4,x5⟩
 have hbA:Below w.heap.size w (w.alloc (.cells #[.int .i64 (k:Nat),.int .i64 (id:Nat),.int .i64 (sd:Nat),.int .i64 (ty:Nat),.int .i64 (q:Nat),.int .i64 (p:Nat),.int .i64 (t:Nat)] 113)).drew:=hb0.drew
 have hsA:(w.alloc (.cells #[.int .i64 (k:Nat),.int .i64 (id:Nat),.int .i64 (sd:Nat),.int .i64 (ty:Nat),.int .i64 (q:Nat),.int .i64 (p:Nat),.int .i64 (t:Nat)] 113)).drew.heap.size=w.heap.size+1:=by simp[World.drew]
 have Hwt:Hid (wt m.phase ⟨id,sd,ty,p,q⟩=false):=by
  show wt m.phase ⟨id,sd,ty,p,q⟩=false
  rw[hph]
  unfold wt
  simp
 have f2:=rfield2 (.func (.func 134) #[] #[]) (.func (.func 131) #[] #[]) (.func (.func 135) #[] #[]) (.func (.func 126) #[] #[]) (.func (.func 127) #[] #[]) (.func (.func 128) #[] #[]) (.func (.func 136) #[] #[])
 have e2:=enters_of Tryz.func135 (by kernel_rfl) rfl
 clear hR h hb0 x1 x2 x3 x4 x5 href
 unfold cmv
 go_enter Tryz.func122,Tryz.ntmps122
 go_wp2_with fail
 refine zbq 21 22 (fun W=>W.cell? ⟨P,10,none⟩=some (.pointer (some ⟨b.K,0,none⟩))/\W.cell? ⟨P,6,none⟩=some (.int .i64 2)/\W.cell? ⟨w.heap.size,1,none⟩=some (.int .i64 (id:Nat))/\W.cell? ⟨w.heap.size,2,none⟩=some (.int .i64 (sd:Nat))/\W.cell? ⟨w.heap.size,3,none⟩=some (.int .i64 (ty:Nat))/\W.cell? ⟨w.heap.size,4,none⟩=some (.int .i64 (q:Nat))/\W.cell? ⟨w.heap.size,5,none⟩=some (.int .i64 (p:Nat))) (fun _=>True) zco ?_
 refine U0 (v:=?v0) 0 rfl (by kernel_rfl) (fun _ _ _ h=>h) (Or.inl ⟨by rfl,?hy0⟩) ⟨fun _=>hT,fun _=>trivial⟩ ?_
 case hy0=>(rintro w' _;go_simp;with_reducible rfl)
 refine U0 (v:=?v1) 1 rfl (by kernel_rfl) (fun _ _ _ h=>h) (Or.inl ⟨by rfl,?hy1⟩) ⟨fun _=>hT,fun _=>trivial⟩ ?_
 case hy1=>(rintro w' _;go_simp;with_reducible rfl)
 refine U0 (v:=?v2) 2 rfl (by kernel_rfl) (fun _ _ _ h=>h) (Or.inl ⟨by rfl,?hy2⟩) ⟨fun _=>hT,fun _=>trivial⟩ ?_
 case hy2=>(rintro w' _;go_simp;with_reducible rfl)
 refine U1 (v:=?v3) 3 rfl (by kernel_rfl) (fun _ _ _ h=>h) (Or.inl ⟨by rfl,?hy3⟩) ⟨fun _=>hT,fun _=>trivial⟩ ?_
 case hy3=>(rintro w' ⟨⟨z0,z1,z2,z3,z4,z5,z6⟩,_⟩;go_simp;with_reducible rfl)
 refine U0 (v:=?v4) 4 rfl (by kernel_rfl) (fun _ _ _ h=>h) (Or.inl ⟨by rfl,?hy4⟩) ⟨fun _=>hT,fun _=>trivial⟩ ?_
 case hy4=>(rintro w' _;go_simp;with_reducible rfl)
 refine zbt (v:=?v5) 5 [20,21] rfl (by kernel_rfl) (by kernel_rfl) (by kernel_rfl) (by kernel_rfl) (by kernel_rfl) (by kernel_rfl) (by kernel_rfl) (fun _ _ _ h=>h) (Or.inl ⟨by rfl,?hy5⟩) ⟨fun _=>hT,fun _=>trivial⟩ ?_
 case hy5=>(rintro w' ⟨⟨z0,z1,z2,z3,z4,z5,z6⟩,_⟩;go_simp;with_reducible rfl)
 refine U0 (v:=?v6) 6 rfl (by kernel_rfl) (fun _ _ _ h=>h) (Or.inl ⟨by rfl,?hy6⟩) ⟨fun _=>hT,fun _=>trivial⟩ ?_
 case hy6=>(rintro w' _;go_simp;with_reducible rfl)
 refine zbt (v:=?v7) 7 [20,21] rfl (by kernel_rfl) (by kernel_rfl) (by kernel_rfl) (by kernel_rfl) (by kernel_rfl) (by kernel_rfl) (by kernel_rfl) (fun _ _ _ h=>h) (Or.inl ⟨by rfl,?hy7⟩) ⟨fun _=>hT,fun _=>trivial⟩ ?_
 case hy7=>(rintro w' ⟨⟨z0,z1,z2,z3,z4,z5,z6⟩,_⟩;go_simp;with_reducible rfl)
 refine U0 (v:=?v8) 8 rfl (by kernel_rfl) (fun _ _ _ h=>h) (Or.inl ⟨by rfl,?hy8⟩) ⟨fun _=>hT,fun _=>trivial⟩ ?_
 case hy8=>(rintro w' _;go_simp;with_reducible rfl)
 refine zbt (v:=?v9) 9 [20,21] rfl (by kernel_rfl) (by kernel_rfl) (by kernel_rfl) (by kernel_rfl) (by kernel_rfl) (by kernel_rfl) (by kernel_rfl) (fun _ _ _ h=>h) (Or.inl ⟨by rfl,?hy9⟩) ⟨fun _=>hT,fun _=>trivial⟩ ?_
 case hy9=>(rintro w' ⟨⟨z0,z1,z2,z3,z4,z5,z6⟩,_⟩;go_simp;with_reducible rfl)
 refine U0 (v:=?v10) 10 rfl (by kernel_rfl) (fun _ _ _ h=>h) (Or.inl ⟨by rfl,?hy10⟩) ⟨fun _=>hT,fun _=>trivial⟩ ?_
 case hy10=>(rintro w' _;go_simp;with_reducible rfl)
 refine zbt (v:=?v11) 11 [20,21] rfl (by kernel_rfl) (by kernel_rfl) (by kernel_rfl) (by kernel_rfl) (by kernel_rfl) (by kernel_rfl) (by kernel_rfl) (fun _ _ _ h=>h) (Or.inl ⟨by rfl,?hy11⟩) ⟨fun _=>hT,fun _=>trivial⟩ ?_
 case hy11=>(rintro w' ⟨⟨z0,z1,z2,z3,z4,z5,z6⟩,_⟩;go_simp;with_reducible rfl)
 refine U0 (v:=?v12) 12 rfl (by kernel_rfl) (fun _ _ _ h=>h) (Or.inl ⟨by rfl,?hy12⟩) ⟨fun _=>hT,fun _=>trivial⟩ ?_
 case hy12=>(rintro w' _;go_simp;with_reducible rfl)
 refine zbt (v:=?v13) 13 [20,21] rfl (by kernel_rfl) (by kernel_rfl) (by kernel_rfl) (by kernel_rfl) (by kernel_rfl) (by kernel_rfl) (by kernel_rfl) (fun _ _ _ h=>h) (Or.inl ⟨by rfl,?hy13⟩) ⟨fun _=>hT,fun _=>trivial⟩ ?_
 case hy13=>(rintro w' ⟨⟨z0,z1,z2,z3,z4,z5,z6⟩,_⟩;go_simp;with_reducible rfl)
 refine U0 (v:=?v14) 14 rfl (by kernel_rfl) (fun _ _ _ h=>h) (Or.inl ⟨by rfl,?hy14⟩) ⟨fun _=>hT,fun _=>trivial⟩ ?_
 case hy14=>(rintro w' _;go_simp;with_reducible rfl)
 refine U0 (v:=?v17) 17 rfl (by kernel_rfl) (fun _ _ _ h=>h) (Or.inl ⟨by rfl,?hy17⟩) ⟨fun _=>hT,fun _=>trivial⟩ ?_
 case hy17=>(rintro w' _;go_simp;with_reducible rfl)
 refine zbt (v:=?v18) 18 [19,20,21] rfl (by kernel_rfl) (by kernel_rfl) (by kernel_rfl) (by kernel_rfl) (by kernel_rfl) (by kernel_rfl) (by kernel_rfl) (fun _ _ _ h=>h) (Or.inl ⟨by rfl,?hy18⟩) ⟨fun _=>hT,fun _=>trivial⟩ ?_
 case hy18=>(rintro w' ⟨⟨z0,z1,z2,z3,z4,z5,z6⟩,_⟩;go_simp;with_reducible rfl)
 generalize (w.alloc (.cells #[.int .i64 (k:Nat),.int .i64 (id:Nat),.int .i64 (sd:Nat),.int .i64 (ty:Nat),.int .i64 (q:Nat),.int .i64 (p:Nat),.int .i64 (t:Nat)] 113)).drew=A at *
 refine za1 15 (by kernel_rfl) rfl (fun K' hK=>?_)
 go_simp
 obtain ⟨z0,z1,z2,z3,z4,z5,z6⟩:=hT
 refine zdd P _ _ z1 ?_
 intro w1 hb1
 have hT:w1.cell? ⟨P,10,none⟩=some (.pointer (some ⟨b.K,0,none⟩))/\w1.cell? ⟨P,6,none⟩=some (.int .i64 2)/\w1.cell? ⟨w.heap.size,1,none⟩=some (.int .i64 (id:Nat))/\w1.cell? ⟨w.heap.size,2,none⟩=some (.int .i64 (sd:Nat))/\w1.cell? ⟨w.heap.size,3,none⟩=some (.int .i64 (ty:Nat))/\w1.cell? ⟨w.heap.size,4,none⟩=some (.int .i64 (q:Nat))/\w1.cell? ⟨w.heap.size,5,none⟩=some (.int .i64 (p:Nat)):=⟨zaa hb1 z0,zaa hb1 z1,zaa hb1 z2,zaa hb1 z3,zaa hb1 z4,zaa hb1 z5,zaa hb1 z6⟩
 unfold zay fnv
 refine hK.o _ _ ⟨fun _=>hT,fun _=>trivial⟩ ?_
 clear hK K' z0 z1 z2 z3 z4 z5 z6
 have hbA1:Below w.heap.size w w1:=zad hbA hb1
 have hs1:w.heap.size+1<=w1.heap.size:=by have:=hb1.size;omega
 clear hb1 hbA hsA
 refine za1 16 (by kernel_rfl) rfl (fun K' hK=>?_)
 go_simp
 refine hK.o _ _ ⟨fun _=>hT,fun _=>trivial⟩ ?_
 clear hK K'
 refine za1 19 (by kernel_rfl) rfl (fun K' hK=>?_)
 go_simp
 refine pisNo_any ty _ _ ?_
 refine hK.o _ _ ⟨fun _=>hT,fun _=>trivial⟩ ?_
 clear hK K' f2 e2
 refine za1 20 (by kernel_rfl) rfl (fun K' hK=>?_)
 go_simp
 refine hK.o _ _ ⟨fun _=>hT,fun _=>trivial⟩ ?_
 clear hK K'
 refine za1 21 (by kernel_rfl) rfl (fun K' hK=>?_)
 go_simp
 have hps1:=HP.o.ext hbA1
 refine bAdd_of b m.phase m.all ⟨id,sd,ty,p,q⟩ _ (by unfold ordv;rw[Hwt.o]) _ _ hps1.pm.book HP.o.pv.one (by omega) hsd hid hc1 (fun s hs i hi=>((HP.o.pv.qd s hs).inn i hi).1) ?_
 intro E v' kk w2 hE hB2 hkk hk1 hk2 ht2 hv2
 refine hK.o _ _ ⟨fun h=>absurd h (by decide),fun _=>trivial⟩ ?_
 clear hK K'
 refine za1 22 (by kernel_rfl) rfl (fun K' hK=>?_)
 go_simp
 refine hK.o _ _ ⟨fun h=>absurd h (by decide),fun h=>absurd h (by decide)⟩ ?_
 clear hK K'
 refine zch (by kernel_rfl) ?_
 have hMn: ¬(b.T P\/P=b.M):=fun e=>HP.o.pm.own (by
  rcases e with e|e
  .exact bt_F e
  .exact .inr (.inl e))
 have hDn: ¬(b.T w.heap.size\/w.heap.size=b.M):=fun e=>by
  have:b.F w.heap.size:=by
   rcases e with e|e
   .exact bt_F e
   .exact .inr (.inl e)
  have:=HP.o.pm.book.lt this
  omega
 have hps2:PS w2 P (b.added E v' kk m.all.length sd) c (zbl m ⟨id,sd,ty,p,q⟩) s0:=by
  refine⟨⟨(ht2.blk P hps1.ltP hMn).trans hps1.pm.blk,hB2,fun e=>?_⟩,?_,HP.o.ph⟩
  .rcases zix hE hv2 hsd P e with e|e
   .exact HP.o.pm.own e
   .have:=hps1.ltP;omega
  .have:=HP.o.pv.add (o:=⟨id,sd,ty,p,q⟩) hok hty hid hnew hrest hl (by have:q+zba m.all sd<=c.total:=htot;show q+zba m.all sd<=1000000000;omega) E v' kk hkk hk1 hk2
   exact this.keep rfl (HP.o.pv.gd.tell (mkev 1 0 id 0 0 0 q 0 0 0)).seq HP.o.pv.gd.ref
 have hmv2:Mv P w b w2 (b.added E v' kk m.all.length sd):=by
  refine⟨(Tch.of hbA1).trans (ht2.own fun g hg=>?_),fun g hg=>?_⟩
  .rcases hg with e|e
   .exact .inr (bt_F e)
   .exact .inr (.inr (.inl e))
  .rcases zix hE hv2 hsd g hg with e|e
   .exact .inl e
   .exact .inr (by omega)
 have hblkD: ∀j v,w1.cell? ⟨w.heap.size,j,none⟩=some v->w2.cell? ⟨w.heap.size,j,none⟩=some v:=fun j v hv=>(World.cell?_of_block (a:=⟨w.heap.size,j,none⟩) (ht2.blk _ (lll (Nat.lt_succ_self _) hs1) hDn)).trans hv
 have x1:=hblkD 1 _ hT.2.2.1
 have x4:=hblkD 4 _ hT.2.2.2.2.2.1
 have hs2:w.heap.size+1<=w2.heap.size:=llt hs1 ht2.size
 have HPS2:=zl hps2
 have HM2:=zl hmv2
 have hadr:(b.added E v' kk m.all.length sd).adr m.all.length=E:=if_pos rfl
 have hin:m.all.length∈(b.added E v' kk m.all.length sd).q sd:=by
  have hq:(b.added E v' kk m.all.length sd).q sd=(b.q sd).take kk++m.all.length::(b.q sd).drop kk:=if_pos rfl
  rw[hq]
  simp
 have HIn:=zl hin
 have Hadr:=zl hadr
 generalize b.added E v' kk m.all.length sd=b1 at *
 have hnth:nth (zbl m ⟨id,sd,ty,p,q⟩).all m.all.length=⟨id,sd,ty,p,q⟩:=zc2 _ _
 have Hnth:=zl hnth
 clear hps1 hps2 hmv2 hblkD hT hB2 hkk hk1 hk2 ht2 hv2 hbA1 hMn hDn hadr hin hnth
 go_wp2_with fail
 have hb3:=zac w2 (.cells #[.int .i64 1,.int .i64 0,.int .i64 (id:Nat),.int .i64 0,.int .i64 0,.int .i64 0,.int .i64 (q:Nat),.int .i64 0,.int .i64 0,.int .i64 0] 42)
 have HPS3:=zl (HPS2.o.ext hb3)
 have HM3:Hid (Mv P w b (w2.alloc (.cells #[.int .i64 1,.int .i64 0,.int .i64 (id:Nat),.int .i64 0,.int .i64 0,.int .i64 0,.int .i64 (q:Nat),.int .i64 0,.int .i64 0,.int .i64 0] 42)) b1):=HM2.o.trans (Mv.of hb3)
 have Hev3:Hid (Evs (w2.alloc (.cells #[.int .i64 1,.int .i64 0,.int .i64 (id:Nat),.int .i64 0,.int .i64 0,.int .i64 0,.int .i64 (q:Nat),.int .i64 0,.int .i64 0,.int .i64 0] 42)) w2.heap.size (.slice (some ⟨w2.heap.size,0,none⟩) 1 1) [mkev 1 0 id 0 0 0 q 0 0 0]):=
  ⟨by simp[evcs,evc],.inr ⟨w2.heap.size,1,_,rfl,nr,World.alloc_heap_new w2 _,nr,by decide,rfl,by simp[evcs,evc,iv,List.range,List.range.loop,mkev]⟩⟩
 have hlow: ∀g,Own P b1 g->g<w2.heap.size:=fun g hg=>HPS2.o.lt hg
 have Hlow:=zl hlow
 have c6:=HPS3.o.pm.cells 6 (.int .i64 (m.phase:Nat)) rfl
 rw[hph] at c6
 have hs3:w2.heap.size<=(w2.alloc (.cells #[.int .i64 1,.int .i64 0,.int .i64 (id:Nat),.int .i64 0,.int .i64 0,.int .i64 0,.int .i64 (q:Nat),.int .i64 0,.int .i64 0,.int .i64 0] 42)).heap.size:=hb3.size
 clear hb3 hlow x1 x4
 generalize hn2:w2.heap.size=n2 at *
 generalize w2.alloc (.cells #[.int .i64 1,.int .i64 0,.int .i64 (id:Nat),.int .i64 0,.int .i64 0,.int .i64 0,.int .i64 (q:Nat),.int .i64 0,.int .i64 0,.int .i64 0] 42)=W3 at *
 refine zdd P _ _ c6 ?_
 intro w4 hb4
 have HPS4:=zl (HPS3.o.ext hb4)
 have HM4:Hid (Mv P w b w4 b1):=HM3.o.trans (Mv.of hb4)
 have Hev4:=zl (Hev3.o.ext hb4)
 have hs4:n2<=w4.heap.size:=llt hs3 hb4.size
 clear hb4 c6 HPS3 HM3 Hev3
 unfold zay fnv
 have f3:=rfield3 (.func (.func 134) #[] #[]) (.func (.func 131) #[] #[]) (.func (.func 135) #[] #[]) (.func (.func 126) #[] #[]) (.func (.func 127) #[] #[]) (.func (.func 128) #[] #[]) (.func (.func 136) #[] #[])
 have e3:=enters_of Tryz.func126 (by kernel_rfl) rfl
 go_wp2_with fail
 refine prest_any _ _ _ _ ?_
 obtain ⟨vj,wj,hj,hjE,hjg⟩:=zd0 32 Hev4.o (Evs.nil w4 0) (by simp) hs4
 have hfin:Hid (R (.returned vj) wj):=by
  have hacc:zbr m ⟨id,sd,ty,p,q⟩=zbl m ⟨id,sd,ty,p,q⟩:=by
   unfold zbr
   rw[if_neg (by omega)]
  have hlowj: ∀g,Own P b1 g->g<n2:=Hlow.o
  rw[hacc] at HR
  refine HR.o b1 vj ([mkev 1 0 id 0 0 0 q 0 0 0]++[]) wj (HPS4.o.grown hjg Hev4.o hlowj) ⟨zdh _ w HM4.o.tch hjg Hev4.o (by omega),HM4.o.bf⟩ (hjE.low (by omega)) (fun g hg e=>?_) ?_ (by simp)
  .have h1:=(World.ownsRow.lt hjE g e).1
   have h2:=hlowj g hg
   omega
  .rw[show outs (zbl m ⟨id,sd,ty,p,q⟩)=outs m++[mkev 1 0 id 0 0 0 q 0 0 0] from zf9 _ _ _ _ _ _ _ _ _ _]
   rfl
 clear hjE hjg HPS4 HM4 Hev4 f3 e3
 go_wp2_with (at_builtin;refine wpList_append_run _ rfl _ _ _ _ rfl _ _ rfl rfl _ _ hj ?_)
 exact hfin.o
