import Derived.Test.YtmiiejinahnpkaaGreatDoorKc
import Derived.Test.YtmiiejinahnpkaaGreatDoorEj
import Derived.Deep.WholeRow
import Derived.Laws.Tables
set_option maxRecDepth 8000
set_option maxHeartbeats 1000000
namespace Go.Proofs.YtmiiejinahnpkaaGreatDoor
section
open Go.RowKit Go.Shelf
variable {o:Od}
theorem oneId.push {l:List Od}(h:oneId l)(hn: ∀j,j<l.length->(nth l j).id≠o.id):oneId (l++[o]):=by
 intro i j hi hj e
 simp only[List.length_append,List.length_cons,List.length_nil] at hi hj
 by_cases h1:i<l.length
 .by_cases h2:j<l.length
  .rw[zdn l o i h1,zdn l o j h2] at e
   exact h i j h1 h2 e
  .obtain rfl:j=l.length:=by omega
   rw[zdn l o i h1,zc2] at e
   exact absurd e (hn i h1)
 .obtain rfl:i=l.length:=by omega
  by_cases h2:j<l.length
  .rw[zdn l o j h2,zc2] at e
   exact absurd e.symm (hn j h2)
  .omega
variable {k:Nat}
theorem zkh {q:List Nat}{j:Nat}(h:j∈q.take k): ∃i,i<k/\i<q.length/\qat q i=j:=by
 obtain ⟨i,hi,e⟩:=List.getElem_of_mem h
 rw[List.length_take] at hi
 refine⟨i,by omega,by omega,?_⟩
 rw[List.getElem_take] at e
 unfold qat
 simp[List.getD_eq_getElem?_getD,show i<q.length by omega,e]
variable {b:Bk}
theorem Pv.add {m:Mk}(h:Pv b m)(ho:okOd o)(hty:1<=o.typ/\o.typ<=4)(hid:o.id<=4294967295)(hnew: ∀j,j<m.all.length->(nth m.all j).id≠o.id)(hr:0<o.rest)(hl:m.all.length<=1048575)(ht:o.rest+zba m.all o.side<=1000000000)
  (E:Nat)(v':Value)(k:Nat)(_hk:k<=(b.q o.side).length)(h1: ∀j,j<k->tkP (nth m.all (qat (b.q o.side) j)) (lim o)=true)(h2:k<(b.q o.side).length->tkP (nth m.all (qat (b.q o.side) k)) (lim o)=false):
  Pv (b.added E v' k m.all.length o.side) {m with all:=m.all++[o]}:=by
 have hpr:=ho.price
 refine⟨h.gd.push o hl (by omega) ho.side ht,h.ok.push ho,h.one.push hnew,fun s hs=>?_,fun s hs i hi=>?_,fun j=>?_,fun j hj=>?_⟩
 .by_cases e:s=o.side
  .subst e
   have hq:(b.added E v' k m.all.length o.side).q o.side=(b.q o.side).take k++m.all.length::(b.q o.side).drop k:=if_pos rfl
   rw[hq]
   have hQ:=h.qd o.side hs
   rw[←List.take_append_drop k (b.q o.side)] at hQ
   refine hQ.add h.ok ho (fun j hj=>?_) (fun j b' hb=>?_)
   .obtain ⟨i,hi,_,rfl⟩:=zkh hj
    exact h1 i hi
   .have hk':k<(b.q o.side).length:=by
     have:=congrArg List.length hb
     simp at this
     omega
    have hj:qat (b.q o.side) k=j:=by
     have:=congrArg (fun l=>l[0]?) hb
     simp only[List.getElem?_drop,List.getElem?_cons_zero,Nat.add_zero] at this
     unfold qat
     rw[List.getD_eq_getElem?_getD,this]
     rfl
    rw[←hj]
    exact h2 hk'
  .have hq:(b.added E v' k m.all.length o.side).q s=b.q s:=if_neg e
   rw[hq]
   exact(h.qd s hs).other (fun e'=>e e'.symm)
 .have hlt: ∀i∈b.q s,0<(nth (m.all++[o]) i).rest:=fun i hi=>by
   rw[zdn m.all o i ((h.qd s hs).inn i hi).1]
   exact h.lv s hs i hi
  by_cases e:s=o.side
  .subst e
   have hq:(b.added E v' k m.all.length o.side).q o.side=(b.q o.side).take k++m.all.length::(b.q o.side).drop k:=if_pos rfl
   rw[hq] at hi
   simp only[List.mem_append,List.mem_cons] at hi
   rcases hi with hi|rfl|hi
   .exact hlt i (List.mem_of_mem_take hi)
   .show 0<(nth (m.all++[o]) m.all.length).rest
    rw[zc2]
    exact hr
   .exact hlt i (List.mem_of_mem_drop hi)
  .have hq:(b.added E v' k m.all.length o.side).q s=b.q s:=if_neg e
   rw[hq] at hi
   exact hlt i hi
 .show (nth (m.all++[o]) j).id<=4294967295
  by_cases e:j<m.all.length
  .rw[zdn m.all o j e]
   exact h.idl j
  .by_cases e2:j=m.all.length
   .rw[e2,zc2]
    exact hid
   .unfold nth
    rw[List.getD_eq_getElem?_getD,List.getElem?_eq_none (by simp;omega)]
    exact Nat.zero_le _
 .have hj':j<(m.all++[o]).length:=hj
  show 1<=(nth (m.all++[o]) j).typ/\(nth (m.all++[o]) j).typ<=4
  simp only[List.length_append,List.length_cons,List.length_nil] at hj'
  by_cases e:j<m.all.length
  .rw[zdn m.all o j e]
   exact h.ty j e
  .obtain rfl:j=m.all.length:=by omega
   rw[zc2]
   exact hty
theorem zix {E n side:Nat}{v':Value}{w:World}(hE:w.heap.size<=E)(hv:v'.ownBlock=(b.v side).ownBlock\/ ∀g,v'.ownBlock=some g->w.heap.size<=g)(hsd:isSd side): ∀g,(b.added E v' k n side).F g->b.F g\/w.heap.size<=g:=by
 intro g hg
 rcases hg with e|e|⟨s,hs,e|⟨i,hi,e⟩⟩
 .exact .inl (.inl e)
 .exact .inl (.inr (.inl e))
 .by_cases es:s=side
  .have hq:(b.added E v' k n side).v s=v':=if_pos es
   rw[hq] at e
   rcases hv with hv|hv
   .exact .inl (.inr (.inr ⟨side,hsd,.inl (hv▸e)⟩))
   .exact .inr (hv g e)
  .have hq:(b.added E v' k n side).v s=b.v s:=if_neg es
   rw[hq] at e
   exact .inl (.inr (.inr ⟨s,hs,.inl e⟩))
 .have ha:(b.added E v' k n side).adr i=if i=n then E else b.adr i:=rfl
  rw[ha] at e
  by_cases ei:i=n
  .rw[if_pos ei] at e
   exact .inr (by omega)
  .rw[if_neg ei] at e
   by_cases es:s=side
   .have hq:(b.added E v' k n side).q s=(b.q s).take k++n::(b.q s).drop k:=if_pos es
    rw[hq] at hi
    simp only[List.mem_append,List.mem_cons] at hi
    rcases hi with hi|hi|hi
    .exact .inl (.inr (.inr ⟨s,hs,.inr ⟨i,List.mem_of_mem_take hi,e⟩⟩))
    .exact absurd hi ei
    .exact .inl (.inr (.inr ⟨s,hs,.inr ⟨i,List.mem_of_mem_drop hi,e⟩⟩))
   .have hq:(b.added E v' k n side).q s=b.q s:=if_neg es
    rw[hq] at hi
    exact .inl (.inr (.inr ⟨s,hs,.inr ⟨i,hi,e⟩⟩))
end
section
open Go.RowKit Go.Shelf
theorem tdcs_get (T:List Td)(i:Nat)(hi:i<T.length)(j:Nat)(hj:j<4):(tdcs T)[i * 4+j]?=(tdc (T.getD i ⟨0,0,0,0⟩))[j]?:=by
 induction T generalizing i with
 |nil=>simp at hi
 |cons t T ih=>
  have e:tdcs (t::T)=tdc t++tdcs T:=by simp[tdcs]
  have hl:(tdc t).length=4:=rfl
  rw[e]
  cases i with
  |zero=>
   rw[List.getElem?_append_left (by rw[hl];omega)]
   simp
  |succ i=>
   rw[List.getElem?_append_right (by rw[hl];omega),hl]
   have:=ih i (by simpa using hi)
   rw[show (i+1) * 4+j-4=i * 4+j by omega,this]
   simp
theorem td_cells {w:World}{B:Nat}{tv:Value}{T:List Td}(h:w.ownsRow B 233 4 tv T.length (tdcs T)):
  ∃a cap g,tv= .slice a T.length cap/\(0<T.length->a=some ⟨g,0,none⟩/\B<=g/\g<w.heap.size)/\ ∀i,i<T.length-> ∀j v,(tdc (T.getD i ⟨0,0,0,0⟩))[j]?=some v->w.cell? ⟨g,i * 4+j,none⟩=some v:=by
 rcases h.2 with ⟨h1,h2⟩|⟨g,cap,cur,h1,h2,h3,h4,h5,h6,h7⟩
 .exact⟨none,0,0,by rw[h1,h2],fun h=>by omega,fun i hi=>by omega⟩
 .refine⟨_,cap,g,h1,fun _=>⟨rfl,h2,(gsi.1 h3).1⟩,fun i hi j v hv=>?_⟩
  have hj:j<4:=by
   have:=(List.getElem?_eq_some_iff.1 hv).1
   simpa [tdc] using this
  rw[cell_of_row w g (i * 4+j) cur 233 (0,0) h3]
  have hq:=(tdcs_get T i hi j hj).trans hv
  rw[←h7,List.getElem?_take] at hq
  split at hq
  .simpa using hq
  .cases hq
theorem take_snoc (T:List Td)(k:Nat)(hk:k<T.length):(T.take (k+1)).map tdev=(T.take k).map tdev++[tdev (T.getD k ⟨0,0,0,0⟩)]:=by
 have:T.take (k+1)=T.take k++[T.getD k ⟨0,0,0,0⟩]:=by
  rw[List.take_add_one]
  simp[List.getD_eq_getElem?_getD,hk]
 rw[this,List.map_append]
 rfl
theorem ptrade_any (P K:Nat)(c:Cf)(m:Mk)(T:List Td)(tv:Value)(B:Nat)(w:World)(R:EW)(hblk:w.heap[P]?=some (.cells (pmc c m K) 104 (0,0)))(hT:w.ownsRow B 233 4 tv T.length (tdcs T))(hP:P<B)(hlen:T.length<=1000000000)
  (hR: ∀v w',w'.heap[P]?=some (.cells (pmc c {m with ref:=zji m.ref (T.map tdev)} K) 104 (0,0))->Evs w' w.heap.size v (T.map tdev)->Tch (fun g=>g=P) w w'->R (.returned v) w'):
  Calls Tryz.prog 166 #[.pointer (some ⟨P,0,none⟩),tv] w R:=by
 have HR:=zl hR
 obtain ⟨a,cap,g,rfl,ha,hc⟩:=td_cells hT
 have HA:=zl ha
 have HC:=zl hc
 have HB:=zl hblk
 have hPl:=(gsi.1 hblk).1
 clear hR hT ha hc hblk
 go_enter Tryz.func166,Tryz.ntmps166
 go_wp2_with fail
 go_loopw [5,7,10] (fun u _ i wr=> ∃k:Nat,k<=T.length/\i= .int .i64 k/\wr.heap[P]?=some (.cells (pmc c {m with ref:=zji m.ref ((T.take k).map tdev)} K) 104 (0,0))/\Evs wr w.heap.size u ((T.take k).map tdev)/\Tch (fun g=>g=P) w wr) (fun _ _ i _=>T.length-(intOf i).toNat)
 case atStart=>exact⟨0,Nat.zero_le _,rfl,HB.o,Evs.nil _ _,Tch.refl _ _⟩
 case round=>
  obtain ⟨k,hk,rfl,h1,h2,h3⟩:=hrel
  have H3:=zl h3
  clear h3
  by_cases hkn:k<T.length
  .obtain ⟨rfl,hBg,hgl⟩:=HA.o (by omega)
   have hc:=HC.o k hkn
   have hsn:=take_snoc T k hkn
   have hlk:((T.take k).map tdev).length=k:=by simp;omega
   obtain ⟨t,ht⟩: ∃t,T.getD k ⟨0,0,0,0⟩=t:=⟨_,rfl⟩
   rw[ht] at hc hsn
   obtain ⟨E,hE⟩: ∃E,(T.take k).map tdev=E:=⟨_,rfl⟩
   rw[hE] at h1 h2 hsn hlk
   have hlast:zji m.ref ((T.take (k+1)).map tdev)=t.price:=by
    rw[hsn,zi8]
    show ((t.price:Nat):Int).toNat=t.price
    simp
   have hgP:g≠P:=by omega
   have hblk:wr.heap[g]?=w.heap[g]?:=H3.o.blk g hgl hgP
   have hc': ∀j v,(tdc t)[j]?=some v->wr.cell? ⟨g,k * 4+j,none⟩=some v:=fun j v hv=>(World.cell?_of_block (a:=⟨g,k * 4+j,none⟩) hblk).trans (hc j v hv)
   have c0:=hc' 0 _ rfl
   rw[Nat.add_zero] at c0
   have c1:=hc' 1 _ rfl
   have c2:=hc' 2 _ rfl
   have c3:=hc' 3 _ rfl
   have hgl2:=zab c0
   have hPl2:P<wr.heap.size:=lll hPl H3.o.size
   have c8:wr.cell? ⟨P,8,none⟩=some (.int .i64 (zji m.ref E:Nat)):=by rw[cell_of_row wr P 8 _ _ (0,0) h1];rfl
   have q8:wr.frozen? ⟨P,8,none⟩=false:=by simp[World.frozen?,h1]
   have hsz:(wr.setCell ⟨P,8,none⟩ (.int .i64 (t.price:Nat))).heap.size=wr.heap.size:=by simp[World.setCell]
   have hb8:((wr.setCell ⟨P,8,none⟩ (.int .i64 (t.price:Nat))).alloc (.cells #[.int .i64 (t.buyer:Nat),.int .i64 (t.seller:Nat),.int .i64 (t.qty:Nat),.int .i64 (t.price:Nat)] 233)).heap[P]?=some (.cells (pmc c {m with ref:=t.price} K) 104 (0,0)):=
    (Below.heap_alloc _ _ _ (by rw[hsz];exact hPl2)).trans (blk_ref h1 t.price)
   have hev:((wr.setCell ⟨P,8,none⟩ (.int .i64 (t.price:Nat))).alloc (.cells #[.int .i64 (t.buyer:Nat),.int .i64 (t.seller:Nat),.int .i64 (t.qty:Nat),.int .i64 (t.price:Nat)] 233)).ownsRow w.heap.size 42 10 u5 E.length (evcs E):=
    h2.keep fun g hg hl=>(Below.heap_alloc _ _ _ (by rw[hsz];exact hl)).trans (bhs _ ⟨P,8,none⟩ _ g (by show g≠P;omega))
   have htc:Tch (fun g=>g=P) w ((wr.setCell ⟨P,8,none⟩ (.int .i64 (t.price:Nat))).alloc (.cells #[.int .i64 (t.buyer:Nat),.int .i64 (t.seller:Nat),.int .i64 (t.qty:Nat),.int .i64 (t.price:Nat)] 233)):=
    (H3.o.trans (ze6 rfl)).trans (Tch.of (zac _ _))
   have hW:=World.alloc_heap_new (wr.setCell ⟨P,8,none⟩ (.int .i64 (t.price:Nat))) (.cells #[.int .i64 (t.buyer:Nat),.int .i64 (t.seller:Nat),.int .i64 (t.qty:Nat),.int .i64 (t.price:Nat)] 233)
   rw[hsz] at hW
   obtain ⟨e0,e1,e2,e3,_⟩:=zjc hW
   have hws:w.heap.size<=((wr.setCell ⟨P,8,none⟩ (.int .i64 (t.price:Nat))).alloc (.cells #[.int .i64 (t.buyer:Nat),.int .i64 (t.seller:Nat),.int .i64 (t.qty:Nat),.int .i64 (t.price:Nat)] 233)).heap.size:=htc.size
   clear hc hc' hblk ht h1 h2 hE hW hsz
   go_wp2_with (first|(at_builtin;refine Hid.o ?_)|go_in)
   unfold Hid
   have hWs:((wr.setCell ⟨P,8,none⟩ (.int .i64 (t.price:Nat))).alloc (.cells #[.int .i64 (t.buyer:Nat),.int .i64 (t.seller:Nat),.int .i64 (t.qty:Nat),.int .i64 (t.price:Nat)] 233)).heap.size=wr.heap.size+1:=by simp[World.setCell]
   generalize (wr.setCell ⟨P,8,none⟩ (.int .i64 (t.price:Nat))).alloc (.cells #[.int .i64 (t.buyer:Nat),.int .i64 (t.seller:Nat),.int .i64 (t.qty:Nat),.int .i64 (t.price:Nat)] 233)=W at *
   clear e0 e1 e2 e3 c0 c1 c2 c3 c8 q8
   have Hev:=zl hev
   have Htc:=zl htc
   have Hb8:=zl hb8
   clear hev htc hb8
   refine za7 w.heap.size 10 80 E.length u5 (evcs E) _ Hev.o hws Tryz.infoEventR rfl (by decide) rfl ?_ (by omega) (by decide) _ _ 32 Tryz.underlying32 rfl rfl rfl ?_ ?_
   .exact zhc (tdev t)
   .simp[Act.eval,hWs]
   intro v1 w1 hG
   have Hf1:Hid (w1.heap[P]?=some (.cells (pmc c {m with ref:=zji m.ref ((T.take (k+1)).map tdev)} K) 104 (0,0))):=by
    rw[hlast]
    exact(hG.grown.block P (gsi.1 Hb8.o).1 (fun e=>by have:=(World.ownsRow.lt Hev.o P e.symm).1;omega)).trans Hb8.o
   have Hf2:Hid (Evs w1 w.heap.size v1 ((T.take (k+1)).map tdev)):=by
    rw[hsn]
    exact Evs.push (e:=tdev t) hG
   have Hf3:Hid (Tch (fun g=>g=P) w w1):=zdh _ w Htc.o hG.grown (E:=E) Hev.o nr
   clear hG hsn hlast
   go_wp2_with fail
   go_roundw
   case rel=>exact⟨k+1,by omega,by go_num,Hf1.o,Hf2.o,Hf3.o⟩
   case measure=>simp[intOf];omega
  .have hk':k=T.length:=by omega
   subst hk'
   have hfin:Hid (R (.returned u5) wr):=by
    rw[List.take_length] at h1 h2
    exact HR.o u5 wr h1 h2 H3.o
   go_wp2_with fail
   exact hfin.o
end
section
open Go.RowKit Go.Shelf
variable {b:Bk} {P g i s0:Nat}
theorem bt_F (h:b.T g):b.F g:=by
 rcases h with e|e|e
 .exact .inl e
 .exact .inr (.inr ⟨1,.inl rfl,.inl e⟩)
 .exact .inr (.inr ⟨2,.inr rfl,.inl e⟩)
theorem bo_F (h:b.O g):b.F g:=by
 obtain ⟨s,hs,i,hi,e⟩:=h
 exact .inr (.inr ⟨s,hs,.inr ⟨i,hi,e⟩⟩)
variable {w w':World}
theorem Tch.own {G:Nat->Prop}(h:Tch G w w')(hG: ∀g,G g->Own P b g):Tch (Own P b) w w':=
 ⟨h.os,h.tape,h.output,h.size,fun g hg hn=>h.blk g hg fun e=>hn (hG g e)⟩
theorem zhu (l:List Od)(i r:Nat):zb7 (zaf l i r)=zb7 l:=by
 unfold zb7
 rw[zg9]
theorem zhq (l:List Od)(i r j:Nat)(hi:i<l.length)(h:j≠i):nth (zaf l i r) j=nth l j:=by
 rw[zbs _ _ _ _ hi,if_neg h]
variable {c:Cf} {m:Mk} {v':Nat->Value}
theorem PS.cancel (h:PS w P b c m s0)(hi: ∃s,isSd s/\i∈b.q s)(hB:BKs w' (b.dropped v' (fun j=>decide (j=i))) m.phase m.all)(hv: ∀s,isSd s->(v' s).ownBlock=(b.v s).ownBlock)(hT:Tch b.T w w'):
  PS w' P (b.dropped v' (fun j=>decide (j=i))) c (zav m i) s0:=by
 obtain ⟨s,hs,hq⟩:=hi
 have hil:=((h.pv.qd s hs).inn i hq).1
 have hcut:Cut m.all (zaf m.all i 0):=Cut.setRest m.all i 0 hil (Nat.zero_le _)
 refine⟨⟨(hT.blk P h.ltP fun e=>h.pm.own (bt_F e)).trans h.pm.blk,?_,fun e=>h.pm.own (zbo hv e)⟩,?_,h.ph⟩
 .refine hB.out hcut.len (zhu _ _ _) fun t ht j hj=>?_
  have:=(List.mem_filter.1 hj).2
  exact zhq m.all i 0 j hil (by simpa using this)
 .refine h.pv.drop (m':=zav m i) hcut (h.pv.gd.cancel i).seq h.pv.gd.ref _ fun t ht j hj=>?_
  show decide (j=i)=decide ((nth (zaf m.all i 0) j).rest=0)
  rw[zhr m.all i 0 j hil]
  by_cases e:j=i
  .simp[e]
  .have:=h.pv.lv t ht j hj
   simp[e]
   omega
theorem PS.traded {w1 w2:World}{m':Mk}{E:List (Nat->Int)}(h:PS w P b c m s0)(hT:Trd m m')(hE:outs m'=outs m++E)
  (hB:BKs w1 (b.dropped v' (fun j=>decide ((nth m'.all j).rest=0))) m.phase m'.all)(hv: ∀s,isSd s->(v' s).ownBlock=(b.v s).ownBlock)
  (h2:w2.heap[P]?=some (.cells (pmc c {m with seq:=s0,ref:=zji m.ref E} b.K) 104 (0,0)))(ht:Tch (fun g=>g=P) w1 w2):PS w2 P (b.dropped v' (fun j=>decide ((nth m'.all j).rest=0))) c m' s0:=by
 have hnP: ∀g,(b.dropped v' (fun j=>decide ((nth m'.all j).rest=0))).F g->g≠P:=fun g hg e=>h.pm.own (e▸zbo hv hg)
 refine⟨⟨?_,?_,fun e=>hnP _ e rfl⟩,h.pv.drop hT.cut (hT.seq h.pv.gd.seq) (hT.low h.pv.gd.ref) _ fun _ _ _ _=>rfl,by rw[hT.phase];exact h.ph⟩
 .rw[h2]
  unfold pmc
  rw[hT.phase,hT.time,hT.ref hE]
  rfl
 .rw[hT.phase]
  exact hB.keep fun g hg=>ht.blk g (hB.lt hg) (hnP g hg)
theorem PS.cutRest {r:Nat}(h:PS w P b c m s0)(hi: ∃s,isSd s/\i∈b.q s)(hr:0<r)(hr2:r<=(nth m.all i).rest)(e:Nat->Int):
  PS (w.setCell ⟨b.adr i,4,none⟩ (.int .i64 (r:Nat))) P b c (zax {m with all:=zaf m.all i r} e) s0:=by
 obtain ⟨s,hs,hq⟩:=hi
 have hil:=((h.pv.qd s hs).inn i hq).1
 have hcut:Cut m.all (zaf m.all i r):=Cut.setRest m.all i r hil hr2
 have hbF:b.F (b.adr i):= .inr (.inr ⟨s,hs,.inr ⟨i,hq,rfl⟩⟩)
 have hot: ∀g,g≠b.adr i->(w.setCell ⟨b.adr i,4,none⟩ (.int .i64 (r:Nat))).heap[g]?=w.heap[g]?:=fun g hg=>bhs w ⟨b.adr i,4,none⟩ _ g hg
 have hB:=h.pm.book
 refine⟨⟨(hot P fun e=>h.pm.own (e▸hbF)).trans h.pm.blk,⟨?_,?_,?_,hB.sep,?_,hB.cnt⟩,h.pm.own⟩,⟨h.pv.gd.cut hcut (by simp only[zax];omega) h.pv.gd.ref,hcut.ok h.pv.ok,hcut.one h.pv.one,fun t ht=>hcut.qd (h.pv.qd t ht),fun t ht j hj=>?_,fun j=>by show (nth (zaf m.all i r) j).id<=_;rw[hcut.id];exact h.pv.idl j,fun j hj=>by show 1<=(nth (zaf m.all i r) j).typ/\(nth (zaf m.all i r) j).typ<=4;rw[hcut.typ];exact h.pv.ty j (by rw[←hcut.len];exact hj)⟩,h.ph⟩
 .exact(hot _ fun e=>hB.ordT hs hq (.inl e.symm)).trans hB.blk
 .intro t ht
  refine zb6 (hB.row t ht) fun g hg=>hot g fun e=>hB.ordT hs hq ?_
  rw[←e]
  rcases ht with rfl|rfl
  .exact .inr (.inl hg)
  .exact .inr (.inr hg)
 .intro t ht j hj
  show OB (w.setCell ⟨b.adr i,4,none⟩ (.int .i64 (r:Nat))) (b.adr j) (nth (zaf m.all i r) j) (wt m.phase (nth (zaf m.all i r) j)) j
  by_cases e:j=i
  .subst e
   rw[zbs _ _ _ _ hil,if_pos rfl]
   exact(hB.ord t ht j hj).setRest r
  .rw[zhq m.all i r j hil e]
   exact(hB.ord t ht j hj).other fun e'=>e (hB.adrOne hs hq ht hj e'.symm)
 .show (w.setCell ⟨b.adr i,4,none⟩ (.int .i64 (r:Nat))).ownsMap Tryz.prog 3 (unitElem (H:=Unit)) b.M (zaf m.all i r).length (zb7 (zaf m.all i r))
  rw[hcut.len,zhu]
  exact zcj hB.ids (hot _ (hB.ordM hs hq))
 .show 0<(nth (zaf m.all i r) j).rest
  rw[zhr m.all i r j hil]
  split
  .exact hr
  .exact h.pv.lv t ht j hj
end
section
theorem zf9 (m:Mk)(k i r b e q p u h:Int):outs (zax m (mkev k 0 i r b e q p u h))=outs m++[mkev k 0 i r b e q p u h]:=by rw[zkk,bare_mkev]
def zgy (k:Nat) (m:Mk):Nat->Int:=mkev k 0 0 0 0 0 (zal m.phase m.ref m.all).2.1 (zal m.phase m.ref m.all).1 (zal m.phase m.ref m.all).2.2 0
theorem zef (m:Mk)(k:Nat):outs (zah m k)=outs m++[zgy k m]:=zf9 _ _ _ _ _ _ _ _ _ _
def zez (m:Mk) (i:Nat):Nat->Int:=mkev 4 0 (nth m.all i).id 0 0 0 (nth m.all i).rest 0 0 0
theorem zfu (m:Mk)(i:Nat):outs (zav m i)=outs m++[zez m i]:=zf9 _ _ _ _ _ _ _ _ _ _
theorem outs_reject (m:Mk)(i r:Nat):outs (zbh m i r)=outs m++[mkev 2 0 i r 0 0 0 0 0 0]:=zf9 _ _ _ _ _ _ _ _ _ _
theorem sweep_two (n:Nat)(m:Mk)(h:m.phase=2):zai n m=m:=by
 induction n with
 |zero=>rfl
 |succ n ih=>
  unfold zai
  dsimp only
  rw[ih,if_neg]
  rw[h]
  omega
variable {o:Od}
theorem pl_has (h:1<=o.typ/\o.typ<=4):(!hasP o.typ)=pl o:=by
 obtain ⟨h1,h2⟩:=h
 unfold hasP pl
 generalize o.typ=t at *
 have:t=1\/t=2\/t=3\/t=4:=by omega
 rcases this with rfl|rfl|rfl|rfl<;>rfl
def adm (ph t:Nat):Bool:=if ph=0 then true else if ph=3 then false else t !=3
variable {c:Cf} {m:Mk}
theorem zi2 (ht:1<=o.typ/\o.typ<=4):zbc c m o=
  if m.all.any (fun a=>a.id==o.id) then 2 else if o.rest=0 then 4 else if (if hasP o.typ then decide (1<=o.price)&&decide (o.price<=1000000) else o.price==0)=false then 5
   else if adm m.phase o.typ=false then 6 else if c.orders<=zap m.all then 7 else if c.total<o.rest+zba m.all o.side then 8 else 0:=by
 have hp:=pl_has ht
 unfold zbc zap zba adm
 split
 .rfl
 .split
  .rfl
  .have e1:((pl o&&o.price !=0)||(!pl o&&(o.price==0||decide (1000000<o.price))))=true↔(if hasP o.typ then decide (1<=o.price)&&decide (o.price<=1000000) else o.price==0)=false:=by
    rw[←hp]
    cases hasP o.typ with
    |true=>
     simp
     omega
    |false=>simp
   by_cases h1:(if hasP o.typ then decide (1<=o.price)&&decide (o.price<=1000000) else o.price==0)=false
   .rw[if_pos (e1.2 h1),if_pos h1]
   .rw[if_neg (fun e=>h1 (e1.1 e)),if_neg h1]
    have e2:(m.phase=3\/(o.typ=3/\m.phase≠0))↔(if m.phase=0 then true else if m.phase=3 then false else o.typ !=3)=false:=by
     by_cases a:m.phase=0
     .simp[a]
     .by_cases b:m.phase=3
      .simp[b]
      .simp[a,b]
    by_cases h2:(if m.phase=0 then true else if m.phase=3 then false else o.typ !=3)=false
    .rw[if_pos (e2.2 h2),if_pos h2]
    .rw[if_neg (fun e=>h2 (e2.1 e)),if_neg h2]
theorem zet (ht:1<=o.typ/\o.typ<=4)(hs:o.side=1\/o.side=2)(h:zbc c m o=0):
  okOd o/\(∀j,j<m.all.length->(nth m.all j).id≠o.id)/\0<o.rest/\o.rest+zba m.all o.side<=c.total/\zap m.all<c.orders/\m.phase≠3:=by
 have hp:=pl_has ht
 rw[zi2 ht] at h
 by_cases h1:m.all.any (fun a=>a.id==o.id)=true
 .rw[if_pos h1] at h
  cases h
 rw[if_neg h1] at h
 by_cases h2:o.rest=0
 .rw[if_pos h2] at h
  cases h
 rw[if_neg h2] at h
 by_cases h3:(if hasP o.typ then decide (1<=o.price)&&decide (o.price<=1000000) else o.price==0)=false
 .rw[if_pos h3] at h
  cases h
 rw[if_neg h3] at h
 by_cases h4:adm m.phase o.typ=false
 .rw[if_pos h4] at h
  cases h
 rw[if_neg h4] at h
 by_cases h5:c.orders<=zap m.all
 .rw[if_pos h5] at h
  cases h
 rw[if_neg h5] at h
 by_cases h6:c.total<o.rest+zba m.all o.side
 .rw[if_pos h6] at h
  cases h
 refine⟨?_,?_,by omega,by omega,by omega,?_⟩
 .rw[Bool.not_eq_false] at h3
  cases hh:hasP o.typ with
  |true=>
   rw[hh] at h3 hp
   simp only[if_true,Bool.and_eq_true,decide_eq_true_eq] at h3
   exact⟨hs,fun e=>(by rw[←hp] at e;cases e),fun _=>h3.1,h3.2⟩
  |false=>
   rw[hh] at h3 hp
   simp only[Bool.false_eq_true,if_false,beq_iff_eq] at h3
   exact⟨hs,fun _=>h3,fun e=>(by rw[←hp] at e;cases e),by omega⟩
 .intro j hj e
  apply h1
  rw[List.any_eq_true]
  exact⟨nth m.all j,zg1 hj,by simp[e]⟩
 .intro e
  apply h4
  unfold adm
  rw[if_neg (by omega),if_pos e]
variable {b:Bk}
theorem Pv.unknown (h:Pv b m)(id:Nat)(hn: ∀s,isSd s-> ∀k,k<(b.q s).length->(nth m.all (qat (b.q s) k)).id≠id):zas m.all id m.all.length= -1:=by
 refine liveAt_nowhere _ _ _ fun i hi hid=>?_
 by_cases h0:0<(nth m.all i).rest
 .exfalso
  have hs:isSd (nth m.all i).side:=(h.ok i hi).side
  have hm:=(h.qd _ hs).has i hi rfl h0
  obtain ⟨k,hk,e⟩:=List.getElem_of_mem hm
  refine hn _ hs k hk ?_
  have:qat (b.q (nth m.all i).side) k=i:=by unfold qat;simp[List.getD_eq_getElem?_getD,hk,e]
  rw[this]
  exact hid
 .omega
theorem Pv.known (h:Pv b m){s k id:Nat}(hs:isSd s)(hk:k<(b.q s).length)(hid:(nth m.all (qat (b.q s) k)).id=id):zas m.all id m.all.length=(qat (b.q s) k:Nat):=
 liveAt_here _ _ _ _ h.one ((h.qd s hs).inn _ (zbk _ k hk)).1 nr hid (h.lv s hs _ (zbk _ k hk))
theorem Pv.count (h:Pv b m):(b.q 1).length+(b.q 2).length=zap m.all:=
 live_count (h.qd 1 (.inl rfl)) (h.qd 2 (.inr rfl)) (h.lv 1 (.inl rfl)) (h.lv 2 (.inr rfl)) h.ok
end
section
open Go.RowKit
def fnv (n:Nat):Value:= .func (.func n) #[] #[]
def zay:Nat->Array Value
 |0=> #[fnv 123,fnv 124,fnv 125,fnv 126,fnv 127,fnv 128,fnv 129]
 |1=> #[fnv 130,fnv 131,fnv 125,fnv 132,fnv 129,fnv 129,fnv 133]
 |2=> #[fnv 134,fnv 131,fnv 135,fnv 126,fnv 127,fnv 128,fnv 136]
 |_=> #[fnv 137,fnv 135,fnv 135,fnv 126,fnv 129,fnv 129,fnv 138]
theorem zc9 {W:World}{B:Nat}{t:TypeId}{x0 x1 x2 x3 x4 x5 x6:Value}(h:W.heap[B]?=some (.cells #[x0,x1,x2,x3,x4,x5,x6] t (0,0))):W.cell? ⟨B,0,none⟩=some x0/\W.cell? ⟨B,1,none⟩=some x1/\W.cell? ⟨B,2,none⟩=some x2/\W.cell? ⟨B,3,none⟩=some x3/\W.cell? ⟨B,4,none⟩=some x4/\W.cell? ⟨B,5,none⟩=some x5/\W.cell? ⟨B,6,none⟩=some x6:=
 ⟨by rw[cell_of_row _ _ 0 _ _ (0,0) h];rfl,by rw[cell_of_row _ _ 1 _ _ (0,0) h];rfl,by rw[cell_of_row _ _ 2 _ _ (0,0) h];rfl,by rw[cell_of_row _ _ 3 _ _ (0,0) h];rfl,by rw[cell_of_row _ _ 4 _ _ (0,0) h];rfl,by rw[cell_of_row _ _ 5 _ _ (0,0) h];rfl,by rw[cell_of_row _ _ 6 _ _ (0,0) h];rfl⟩
structure Shut (p:Prop):Prop where
 out:p
theorem zhj {P:Program}{ops:Array Oper}{rest:List Oper}{o:Oper}{a:Act}{w:World}{Q:Exit->Act->World->Prop}(hgd:o.guard=none)(ty:TypeId)(x y:Operand)(ho:o.op= .store ty x y)(c c':Array Value)
  (hx:a.eval x= .pointer (some ⟨w.heap.size,0,none⟩))(hy:a.eval y= .agg c')(hi:(P.info? ty).map (·.size)=some c'.size)(hc:c.size=c'.size)(h1:c'.all (·.oneCell')=true)
  (h:wpList P ops Q rest (a.put o.dst undef) (w.alloc (.cells c' ty))):wpList P ops Q (o::rest) a (w.alloc (.cells c ty)):=by
 refine wpList_store_row hgd ty x y ho w.heap.size c' hx hy ty c (heap_alloc_last w _) hi hc h1 ?_
 rw[World.setRow_alloc_new]
 exact h
def zb5:Array Value:= #[fnv 123,fnv 124,fnv 125,fnv 126,fnv 127,fnv 128,fnv 129,fnv 130,fnv 131,fnv 125,fnv 132,fnv 129,fnv 129,fnv 133,
 fnv 134,fnv 131,fnv 135,fnv 126,fnv 127,fnv 128,fnv 136,fnv 137,fnv 135,fnv 135,fnv 126,fnv 129,fnv 129,fnv 138]
theorem Tryz.sizeRules:(Tryz.prog.info? 160).map (·.size)=some 7:=by kernel_rfl
theorem Tryz.sizeRules4:(Tryz.prog.info? 184).map (·.size)=some zb5.size:=by kernel_rfl
theorem zdw (P:Nat)(w:World)(R:EW)(h6:w.cell? ⟨P,6,none⟩=some (.int .i64 0))(hR: ∀w',Below w.heap.size w w'->R (.returned (.agg (zay 0))) w'):Calls Tryz.prog 97 #[.pointer (some ⟨P,0,none⟩)] w R:=by
 have HR:=zl hR
 have hP:=zab h6
 clear hR
 go_enter Tryz.func97,Tryz.ntmps97
 go_wp2_with (first|(guard_target=~wpList _ _ _ ({dst:=none,op:=Op.store 184 _ _,type:=_,pos:=_,after:=_,guard:=none}::_) _ _;refine Shut.out ?_)|go_in)
 refine⟨?_⟩
 refine zhj (c':=zb5) rfl 184 (.tmp 3) (.tmp 8) rfl _ (by simp[Act.eval]) rfl Tryz.sizeRules4 rfl (by kernel_rfl) ?_
 have hb:Below w.heap.size w ((w.alloc (.cells #[.nilFunc,.nilFunc,.nilFunc,.nilFunc,.nilFunc,.nilFunc,.nilFunc] 160)).alloc (.cells zb5 184)):=((Below.refl _ w).alloc nr _).alloc (by simp) _
 have ht:((w.alloc (.cells #[.nilFunc,.nilFunc,.nilFunc,.nilFunc,.nilFunc,.nilFunc,.nilFunc] 160)).alloc (.cells zb5 184)).heap[w.heap.size+1]?=some (.cells zb5 184 (0,0)):=by
  have:=heap_alloc_last (w.alloc (.cells #[.nilFunc,.nilFunc,.nilFunc,.nilFunc,.nilFunc,.nilFunc,.nilFunc] 160)) (.cells zb5 184)
  rwa[World.size_alloc] at this
 have hr:((w.alloc (.cells #[.nilFunc,.nilFunc,.nilFunc,.nilFunc,.nilFunc,.nilFunc,.nilFunc] 160)).alloc (.cells zb5 184)).heap[w.heap.size]?=some (.cells #[.nilFunc,.nilFunc,.nilFunc,.nilFunc,.nilFunc,.nilFunc,.nilFunc] 160 (0,0)):=(Below.heap_alloc _ _ _ (by simp)).trans (heap_alloc_last w _)
 have c6:=zaa hb h6
 generalize (w.alloc (.cells #[.nilFunc,.nilFunc,.nilFunc,.nilFunc,.nilFunc,.nilFunc,.nilFunc] 160)).alloc (.cells zb5 184)=W at *
 clear h6
 have t0:W.cell? ⟨w.heap.size+1,0,none⟩=some (.func (.func (123)) #[] #[]):=by rw[cell_of_row W _ 0 _ _ (0,0) ht];rfl
 have t1:W.cell? ⟨w.heap.size+1,1,none⟩=some (.func (.func (124)) #[] #[]):=by rw[cell_of_row W _ 1 _ _ (0,0) ht];rfl
 have t2:W.cell? ⟨w.heap.size+1,2,none⟩=some (.func (.func (125)) #[] #[]):=by rw[cell_of_row W _ 2 _ _ (0,0) ht];rfl
 have t3:W.cell? ⟨w.heap.size+1,3,none⟩=some (.func (.func (126)) #[] #[]):=by rw[cell_of_row W _ 3 _ _ (0,0) ht];rfl
 have t4:W.cell? ⟨w.heap.size+1,4,none⟩=some (.func (.func (127)) #[] #[]):=by rw[cell_of_row W _ 4 _ _ (0,0) ht];rfl
 have t5:W.cell? ⟨w.heap.size+1,5,none⟩=some (.func (.func (128)) #[] #[]):=by rw[cell_of_row W _ 5 _ _ (0,0) ht];rfl
 have t6:W.cell? ⟨w.heap.size+1,6,none⟩=some (.func (.func (129)) #[] #[]):=by rw[cell_of_row W _ 6 _ _ (0,0) ht];rfl
 go_wp2_with (first|(guard_target=~wpList _ _ _ ({dst:=none,op:=Op.store 160 _ _,type:=_,pos:=_,after:=_,guard:=none}::_) _ _;refine Shut.out ?_)|go_in)
 refine⟨?_⟩
 refine wpList_store_row rfl 160 (.tmp 2) (.tmp 15) rfl w.heap.size (zay 0) rfl rfl 160 _ hr Tryz.sizeRules rfl (by kernel_rfl) ?_
 have hbz:Below w.heap.size w (W.setRow w.heap.size (zay 0)):=below_setRow hb nr _
 have hz:(W.setRow w.heap.size (zay 0)).heap[w.heap.size]?=some (.cells (zay 0) 160 (0,0)):=setRow_heap _ _ _ _ _ _ hr
 clear t0 t1 t2 t3 t4 t5 t6 c6 ht hr hb
 generalize W.setRow w.heap.size (zay 0)=Z at *
 unfold zay fnv at hz
 obtain ⟨u0,u1,u2,u3,u4,u5,u6⟩:=zc9 hz
 clear hz
 go_wp2_with fail
 refine bodyPost_ret (v:= .agg (zay 0)) (by simp[results,Tryz.results97,go_sem,zay,fnv,u0,u1,u2,u3,u4,u5,u6]) rfl ?_
 exact HR.o Z hbz
theorem zde (P:Nat)(w:World)(R:EW)(h6:w.cell? ⟨P,6,none⟩=some (.int .i64 1))(hR: ∀w',Below w.heap.size w w'->R (.returned (.agg (zay 1))) w'):Calls Tryz.prog 97 #[.pointer (some ⟨P,0,none⟩)] w R:=by
 have HR:=zl hR
 have hP:=zab h6
 clear hR
 go_enter Tryz.func97,Tryz.ntmps97
 go_wp2_with (first|(guard_target=~wpList _ _ _ ({dst:=none,op:=Op.store 184 _ _,type:=_,pos:=_,after:=_,guard:=none}::_) _ _;refine Shut.out ?_)|go_in)
 refine⟨?_⟩
 refine zhj (c':=zb5) rfl 184 (.tmp 3) (.tmp 8) rfl _ (by simp[Act.eval]) rfl Tryz.sizeRules4 rfl (by kernel_rfl) ?_
 have hb:Below w.heap.size w ((w.alloc (.cells #[.nilFunc,.nilFunc,.nilFunc,.nilFunc,.nilFunc,.nilFunc,.nilFunc] 160)).alloc (.cells zb5 184)):=((Below.refl _ w).alloc nr _).alloc (by simp) _
 have ht:((w.alloc (.cells #[.nilFunc,.nilFunc,.nilFunc,.nilFunc,.nilFunc,.nilFunc,.nilFunc] 160)).alloc (.cells zb5 184)).heap[w.heap.size+1]?=some (.cells zb5 184 (0,0)):=by
  have:=heap_alloc_last (w.alloc (.cells #[.nilFunc,.nilFunc,.nilFunc,.nilFunc,.nilFunc,.nilFunc,.nilFunc] 160)) (.cells zb5 184)
  rwa[World.size_alloc] at this
 have hr:((w.alloc (.cells #[.nilFunc,.nilFunc,.nilFunc,.nilFunc,.nilFunc,.nilFunc,.nilFunc] 160)).alloc (.cells zb5 184)).heap[w.heap.size]?=some (.cells #[.nilFunc,.nilFunc,.nilFunc,.nilFunc,.nilFunc,.nilFunc,.nilFunc] 160 (0,0)):=(Below.heap_alloc _ _ _ (by simp)).trans (heap_alloc_last w _)
 have c6:=zaa hb h6
 generalize (w.alloc (.cells #[.nilFunc,.nilFunc,.nilFunc,.nilFunc,.nilFunc,.nilFunc,.nilFunc] 160)).alloc (.cells zb5 184)=W at *
 clear h6
 have t0:W.cell? ⟨w.heap.size+1,7,none⟩=some (.func (.func (130)) #[] #[]):=by rw[cell_of_row W _ 7 _ _ (0,0) ht];rfl
 have t1:W.cell? ⟨w.heap.size+1,8,none⟩=some (.func (.func (131)) #[] #[]):=by rw[cell_of_row W _ 8 _ _ (0,0) ht];rfl
 have t2:W.cell? ⟨w.heap.size+1,9,none⟩=some (.func (.func (125)) #[] #[]):=by rw[cell_of_row W _ 9 _ _ (0,0) ht];rfl
 have t3:W.cell? ⟨w.heap.size+1,10,none⟩=some (.func (.func (132)) #[] #[]):=by rw[cell_of_row W _ 10 _ _ (0,0) ht];rfl
 have t4:W.cell? ⟨w.heap.size+1,11,none⟩=some (.func (.func (129)) #[] #[]):=by rw[cell_of_row W _ 11 _ _ (0,0) ht];rfl
 have t5:W.cell? ⟨w.heap.size+1,12,none⟩=some (.func (.func (129)) #[] #[]):=by rw[cell_of_row W _ 12 _ _ (0,0) ht];rfl
 have t6:W.cell? ⟨w.heap.size+1,13,none⟩=some (.func (.func (133)) #[] #[]):=by rw[cell_of_row W _ 13 _ _ (0,0) ht];rfl
 go_wp2_with (first|(guard_target=~wpList _ _ _ ({dst:=none,op:=Op.store 160 _ _,type:=_,pos:=_,after:=_,guard:=none}::_) _ _;refine Shut.out ?_)|go_in)
 refine⟨?_⟩
 refine wpList_store_row rfl 160 (.tmp 2) (.tmp 15) rfl w.heap.size (zay 1) rfl rfl 160 _ hr Tryz.sizeRules rfl (by kernel_rfl) ?_
 have hbz:Below w.heap.size w (W.setRow w.heap.size (zay 1)):=below_setRow hb nr _
 have hz:(W.setRow w.heap.size (zay 1)).heap[w.heap.size]?=some (.cells (zay 1) 160 (0,0)):=setRow_heap _ _ _ _ _ _ hr
 clear t0 t1 t2 t3 t4 t5 t6 c6 ht hr hb
 generalize W.setRow w.heap.size (zay 1)=Z at *
 unfold zay fnv at hz
 obtain ⟨u0,u1,u2,u3,u4,u5,u6⟩:=zc9 hz
 clear hz
 go_wp2_with fail
 refine bodyPost_ret (v:= .agg (zay 1)) (by simp[results,Tryz.results97,go_sem,zay,fnv,u0,u1,u2,u3,u4,u5,u6]) rfl ?_
 exact HR.o Z hbz
theorem zdd (P:Nat)(w:World)(R:EW)(h6:w.cell? ⟨P,6,none⟩=some (.int .i64 2))(hR: ∀w',Below w.heap.size w w'->R (.returned (.agg (zay 2))) w'):Calls Tryz.prog 97 #[.pointer (some ⟨P,0,none⟩)] w R:=by
 have HR:=zl hR
 have hP:=zab h6
 clear hR
 go_enter Tryz.func97,Tryz.ntmps97
 go_wp2_with (first|(guard_target=~wpList _ _ _ ({dst:=none,op:=Op.store 184 _ _,type:=_,pos:=_,after:=_,guard:=none}::_) _ _;refine Shut.out ?_)|go_in)
 refine⟨?_⟩
 refine zhj (c':=zb5) rfl 184 (.tmp 3) (.tmp 8) rfl _ (by simp[Act.eval]) rfl Tryz.sizeRules4 rfl (by kernel_rfl) ?_
 have hb:Below w.heap.size w ((w.alloc (.cells #[.nilFunc,.nilFunc,.nilFunc,.nilFunc,.nilFunc,.nilFunc,.nilFunc] 160)).alloc (.cells zb5 184)):=((Below.refl _ w).alloc nr _).alloc (by simp) _
 have ht:((w.alloc (.cells #[.nilFunc,.nilFunc,.nilFunc,.nilFunc,.nilFunc,.nilFunc,.nilFunc] 160)).alloc (.cells zb5 184)).heap[w.heap.size+1]?=some (.cells zb5 184 (0,0)):=by
  have:=heap_alloc_last (w.alloc (.cells #[.nilFunc,.nilFunc,.nilFunc,.nilFunc,.nilFunc,.nilFunc,.nilFunc] 160)) (.cells zb5 184)
  rwa[World.size_alloc] at this
 have hr:((w.alloc (.cells #[.nilFunc,.nilFunc,.nilFunc,.nilFunc,.nilFunc,.nilFunc,.nilFunc] 160)).alloc (.cells zb5 184)).heap[w.heap.size]?=some (.cells #[.nilFunc,.nilFunc,.nilFunc,.nilFunc,.nilFunc,.nilFunc,.nilFunc] 160 (0,0)):=(Below.heap_alloc _ _ _ (by simp)).trans (heap_alloc_last w _)
 have c6:=zaa hb h6
 generalize (w.alloc (.cells #[.nilFunc,.nilFunc,.nilFunc,.nilFunc,.nilFunc,.nilFunc,.nilFunc] 160)).alloc (.cells zb5 184)=W at *
 clear h6
 have t0:W.cell? ⟨w.heap.size+1,14,none⟩=some (.func (.func (134)) #[] #[]):=by rw[cell_of_row W _ 14 _ _ (0,0) ht];rfl
 have t1:W.cell? ⟨w.heap.size+1,15,none⟩=some (.func (.func (131)) #[] #[]):=by rw[cell_of_row W _ 15 _ _ (0,0) ht];rfl
 have t2:W.cell? ⟨w.heap.size+1,16,none⟩=some (.func (.func (135)) #[] #[]):=by rw[cell_of_row W _ 16 _ _ (0,0) ht];rfl
 have t3:W.cell? ⟨w.heap.size+1,17,none⟩=some (.func (.func (126)) #[] #[]):=by rw[cell_of_row W _ 17 _ _ (0,0) ht];rfl
 have t4:W.cell? ⟨w.heap.size+1,18,none⟩=some (.func (.func (127)) #[] #[]):=by rw[cell_of_row W _ 18 _ _ (0,0) ht];rfl
 have t5:W.cell? ⟨w.heap.size+1,19,none⟩=some (.func (.func (128)) #[] #[]):=by rw[cell_of_row W _ 19 _ _ (0,0) ht];rfl
 have t6:W.cell? ⟨w.heap.size+1,20,none⟩=some (.func (.func (136)) #[] #[]):=by rw[cell_of_row W _ 20 _ _ (0,0) ht];rfl
 go_wp2_with (first|(guard_target=~wpList _ _ _ ({dst:=none,op:=Op.store 160 _ _,type:=_,pos:=_,after:=_,guard:=none}::_) _ _;refine Shut.out ?_)|go_in)
 refine⟨?_⟩
 refine wpList_store_row rfl 160 (.tmp 2) (.tmp 15) rfl w.heap.size (zay 2) rfl rfl 160 _ hr Tryz.sizeRules rfl (by kernel_rfl) ?_
 have hbz:Below w.heap.size w (W.setRow w.heap.size (zay 2)):=below_setRow hb nr _
 have hz:(W.setRow w.heap.size (zay 2)).heap[w.heap.size]?=some (.cells (zay 2) 160 (0,0)):=setRow_heap _ _ _ _ _ _ hr
 clear t0 t1 t2 t3 t4 t5 t6 c6 ht hr hb
 generalize W.setRow w.heap.size (zay 2)=Z at *
 unfold zay fnv at hz
 obtain ⟨u0,u1,u2,u3,u4,u5,u6⟩:=zc9 hz
 clear hz
 go_wp2_with fail
 refine bodyPost_ret (v:= .agg (zay 2)) (by simp[results,Tryz.results97,go_sem,zay,fnv,u0,u1,u2,u3,u4,u5,u6]) rfl ?_
 exact HR.o Z hbz
theorem zfq (P:Nat)(w:World)(R:EW)(h6:w.cell? ⟨P,6,none⟩=some (.int .i64 3))(hR: ∀w',Below w.heap.size w w'->R (.returned (.agg (zay 3))) w'):Calls Tryz.prog 97 #[.pointer (some ⟨P,0,none⟩)] w R:=by
 have HR:=zl hR
 have hP:=zab h6
 clear hR
 go_enter Tryz.func97,Tryz.ntmps97
 go_wp2_with (first|(guard_target=~wpList _ _ _ ({dst:=none,op:=Op.store 184 _ _,type:=_,pos:=_,after:=_,guard:=none}::_) _ _;refine Shut.out ?_)|go_in)
 refine⟨?_⟩
 refine zhj (c':=zb5) rfl 184 (.tmp 3) (.tmp 8) rfl _ (by simp[Act.eval]) rfl Tryz.sizeRules4 rfl (by kernel_rfl) ?_
 have hb:Below w.heap.size w ((w.alloc (.cells #[.nilFunc,.nilFunc,.nilFunc,.nilFunc,.nilFunc,.nilFunc,.nilFunc] 160)).alloc (.cells zb5 184)):=((Below.refl _ w).alloc nr _).alloc (by simp) _
 have ht:((w.alloc (.cells #[.nilFunc,.nilFunc,.nilFunc,.nilFunc,.nilFunc,.nilFunc,.nilFunc] 160)).alloc (.cells zb5 184)).heap[w.heap.size+1]?=some (.cells zb5 184 (0,0)):=by
  have:=heap_alloc_last (w.alloc (.cells #[.nilFunc,.nilFunc,.nilFunc,.nilFunc,.nilFunc,.nilFunc,.nilFunc] 160)) (.cells zb5 184)
  rwa[World.size_alloc] at this
 have hr:((w.alloc (.cells #[.nilFunc,.nilFunc,.nilFunc,.nilFunc,.nilFunc,.nilFunc,.nilFunc] 160)).alloc (.cells zb5 184)).heap[w.heap.size]?=some (.cells #[.nilFunc,.nilFunc,.nilFunc,.nilFunc,.nilFunc,.nilFunc,.nilFunc] 160 (0,0)):=(Below.heap_alloc _ _ _ (by simp)).trans (heap_alloc_last w _)
 have c6:=zaa hb h6
 generalize (w.alloc (.cells #[.nilFunc,.nilFunc,.nilFunc,.nilFunc,.nilFunc,.nilFunc,.nilFunc] 160)).alloc (.cells zb5 184)=W at *
 clear h6
 have t0:W.cell? ⟨w.heap.size+1,21,none⟩=some (.func (.func (137)) #[] #[]):=by rw[cell_of_row W _ 21 _ _ (0,0) ht];rfl
 have t1:W.cell? ⟨w.heap.size+1,22,none⟩=some (.func (.func (135)) #[] #[]):=by rw[cell_of_row W _ 22 _ _ (0,0) ht];rfl
 have t2:W.cell? ⟨w.heap.size+1,23,none⟩=some (.func (.func (135)) #[] #[]):=by rw[cell_of_row W _ 23 _ _ (0,0) ht];rfl
 have t3:W.cell? ⟨w.heap.size+1,24,none⟩=some (.func (.func (126)) #[] #[]):=by rw[cell_of_row W _ 24 _ _ (0,0) ht];rfl
 have t4:W.cell? ⟨w.heap.size+1,25,none⟩=some (.func (.func (129)) #[] #[]):=by rw[cell_of_row W _ 25 _ _ (0,0) ht];rfl
 have t5:W.cell? ⟨w.heap.size+1,26,none⟩=some (.func (.func (129)) #[] #[]):=by rw[cell_of_row W _ 26 _ _ (0,0) ht];rfl
 have t6:W.cell? ⟨w.heap.size+1,27,none⟩=some (.func (.func (138)) #[] #[]):=by rw[cell_of_row W _ 27 _ _ (0,0) ht];rfl
 go_wp2_with (first|(guard_target=~wpList _ _ _ ({dst:=none,op:=Op.store 160 _ _,type:=_,pos:=_,after:=_,guard:=none}::_) _ _;refine Shut.out ?_)|go_in)
 refine⟨?_⟩
 refine wpList_store_row rfl 160 (.tmp 2) (.tmp 15) rfl w.heap.size (zay 3) rfl rfl 160 _ hr Tryz.sizeRules rfl (by kernel_rfl) ?_
 have hbz:Below w.heap.size w (W.setRow w.heap.size (zay 3)):=below_setRow hb nr _
 have hz:(W.setRow w.heap.size (zay 3)).heap[w.heap.size]?=some (.cells (zay 3) 160 (0,0)):=setRow_heap _ _ _ _ _ _ hr
 clear t0 t1 t2 t3 t4 t5 t6 c6 ht hr hb
 generalize W.setRow w.heap.size (zay 3)=Z at *
 unfold zay fnv at hz
 obtain ⟨u0,u1,u2,u3,u4,u5,u6⟩:=zc9 hz
 clear hz
 go_wp2_with fail
 refine bodyPost_ret (v:= .agg (zay 3)) (by simp[results,Tryz.results97,go_sem,zay,fnv,u0,u1,u2,u3,u4,u5,u6]) rfl ?_
 exact HR.o Z hbz
end
section
open Go.RowKit Go.Shelf
def zev:Array Value:= #[.int .i64 0,.int .i64 0,.int .i64 0,.int .i64 0,.int .i64 0,.int .i64 0,.int .i64 0,.int .i64 0,.int .i64 0,.int .i64 0]
theorem tch_row (w:World)(g:Nat)(cs:Array Value):Tch (fun k=>k=g) w (w.setRow g cs):=⟨rfl,rfl,rfl,by simp,fun k _ hn=>setRow_other w g k cs hn⟩
theorem Tryz.sizeEvent:(Tryz.prog.info? 42).map (·.size)=some 10:=by kernel_rfl
theorem zfs (P:Nat)(b:Bk)(c:Cf)(m:Mk)(s0 i:Nat)(w:World)(R:EW)(h:PS w P b c m s0)(hi: ∃s,isSd s/\i∈b.q s)
  (hR: ∀v' w',PS w' P (b.dropped v' (fun j=>decide (j=i))) c (zav m i) s0->(∀s,isSd s->(v' s).ownBlock=(b.v s).ownBlock)->Tch b.T w w'->R (.returned (evv (zez m i))) w'):
  Calls Tryz.prog 119 #[.pointer (some ⟨P,0,none⟩),.pointer (some ⟨b.adr i,0,none⟩)] w R:=by
 have HR:=zl hR
 have HP:=zl h
 have HI:=zl hi
 have hb0:=zac w (.cells zev 42)
 have hz:=World.alloc_heap_new w (.cells zev 42)
 have c10:=zaa hb0 (h.pm.cells 10 (.pointer (some ⟨b.K,0,none⟩)) rfl)
 have HP1:=zl (h.ext hb0)
 obtain ⟨s,hs,hq⟩:=hi
 have HO:=zl ((h.ext hb0).pm.book.ord s hs i hq)
 have HT:=zl (h.pm.book.ordT hs hq)
 have HZ:=zl hz
 have HN:Hid (¬b.T w.heap.size):=fun e=>by have:=h.pm.book.lt (bt_F e);omega
 have Hb0:=zl hb0
 clear hR h hs hq hz hb0
 unfold zev at *
 go_enter Tryz.func119,Tryz.ntmps119
 go_wp2_with fail
 refine bRemove_any b m.phase m.all i _ _ HP1.o.pm.book HI.o ?_
 intro v' w1 hB hv ht
 have hO1:OB w1 (b.adr i) (nth m.all i) (wt m.phase (nth m.all i)) i:=(ht.blk _ HO.o.lt HT.o).trans HO.o
 have hz1:w1.heap[w.heap.size]?=some (.cells zev 42 (0,0)):=(ht.blk _ (gsi.1 HZ.o).1 HN.o).trans HZ.o
 have ht0:Tch b.T w w1:=(Tch.of Hb0.o).trans ht
 have HF:Hid (∀w',(∀g,g<w1.heap.size->g≠w.heap.size->w'.heap[g]?=w1.heap[g]?)->Tch (fun g=>g=w.heap.size) w1 w'->R (.returned (evv (zez m i))) w'):=by
  intro w' hw hb
  refine HR.o v' w' ((HP1.o.cancel HI.o hB hv ht).keep fun g hg=>hw g ((HP1.o.cancel HI.o hB hv ht).lt hg) fun e=>?_) hv ?_
  .subst e
   rcases hg with e|e
   .have:=HP.o.ltP;omega
   .have:=HP.o.pm.book.lt (zbo hv e);omega
  .exact⟨hb.os.trans ht0.os,hb.tape.trans ht0.tape,hb.output.trans ht0.output,llt ht0.size hb.size,fun g hg hn=>(hb.blk g (lll hg ht0.size) (by omega)).trans (ht0.blk g hg hn)⟩
 have e0:=hO1.c.c0
 have e4:=hO1.c.c4
 have hlt:=hO1.lt
 clear hB hv ht ht0 hO1 HP HP1 HI HO HT HR c10 HZ HN Hb0
 unfold zez at HF
 generalize nth m.all i=o at *
 go_wp2_with fail
 have HF2:Hid (∀w',(∀g,g<w1.heap.size->g≠w.heap.size->w'.heap[g]?=w1.drew.heap[g]?)->Tch (fun g=>g=w.heap.size) w1.drew w'->R (.returned (evv (mkev 4 0 o.id 0 0 0 o.rest 0 0 0))) w'):=fun w' h1 h2=>HF.o w' h1 ⟨h2.os,h2.tape,h2.output,h2.size,h2.blk⟩
 have d0:w1.drew.cell? ⟨b.adr i,0,none⟩=some (.int .i64 (o.id:Nat)):=e0
 have d4:w1.drew.cell? ⟨b.adr i,4,none⟩=some (.int .i64 (o.rest:Nat)):=e4
 have hz2:w1.drew.heap[w.heap.size]?=some (.cells zev 42 (0,0)):=hz1
 clear HF e0 e4 hz1
 refine wp_region_still_tail 11 zco (by kernel_rfl) ?_
 simp only[List.take_succ_cons,List.take_zero,List.drop_succ_cons,List.drop_zero]
 change wpStill _ _ w1.drew (fun a'=>wpList _ _ _ _ a' w1.drew) _ _
 generalize w1.drew=W at *
 iterate 11 still_step
 refine wpStill_nil ?_
 refine wpList_store_row rfl 42 (.tmp 4) (.tmp 21) rfl w.heap.size #[.int .i64 4,.int .i64 0,.int .i64 (o.id:Nat),.int .i64 0,.int .i64 0,.int .i64 0,.int .i64 (o.rest:Nat),.int .i64 0,.int .i64 0,.int .i64 0] rfl rfl 42 _ hz2 Tryz.sizeEvent rfl (by kernel_rfl) ?_
 have hf:Hid (R (.returned (evv (mkev 4 0 o.id 0 0 0 o.rest 0 0 0))) (W.setRow w.heap.size #[.int .i64 4,.int .i64 0,.int .i64 (o.id:Nat),.int .i64 0,.int .i64 0,.int .i64 0,.int .i64 (o.rest:Nat),.int .i64 0,.int .i64 0,.int .i64 0])):=
  HF2.o _ (fun g _ hn=>setRow_other W _ g _ hn) (tch_row W _ _)
 have hz3:=setRow_heap W w.heap.size _ #[.int .i64 4,.int .i64 0,.int .i64 (o.id:Nat),.int .i64 0,.int .i64 0,.int .i64 0,.int .i64 (o.rest:Nat),.int .i64 0,.int .i64 0,.int .i64 0] _ _ hz2
 generalize W.setRow w.heap.size #[.int .i64 4,.int .i64 0,.int .i64 (o.id:Nat),.int .i64 0,.int .i64 0,.int .i64 0,.int .i64 (o.rest:Nat),.int .i64 0,.int .i64 0,.int .i64 0]=Z at *
 obtain ⟨⟨u0,u1,u2,u3,u4,u5,u6,u7,u8,u9⟩,_⟩:=zk8 hz3
 clear hz3 d0 d4 hz2 HF2
 go_wp2_with fail
 refine bodyPost_ret (v:=evv (mkev 4 0 o.id 0 0 0 o.rest 0 0 0)) (by simp[results,Tryz.results119,go_sem,evv,mkev,u0,u1,u2,u3,u4,u5,u6,u7,u8,u9]) rfl ?_
 exact hf.out
end
