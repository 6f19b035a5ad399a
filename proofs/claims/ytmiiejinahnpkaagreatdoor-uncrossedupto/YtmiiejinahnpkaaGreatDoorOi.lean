import Derived.Test.YtmiiejinahnpkaaGreatDoorXOcOh
set_option maxRecDepth 8000
set_option maxHeartbeats 4000000
namespace Go.Proofs.YtmiiejinahnpkaaGreatDoor
open Go.RowKit Go.Shelf
structure Cx (ph:Nat) (L:List Od) (E:List (Nat->Int)) (e:Nat->Int) (T:List (Nat->Int)) (e8:Nat->Int) (F:List (Nat->Int)) (r':List Nat) (V p:Nat):Prop where
 ev:E=e::(T++e8::F)
 k8:e8 0=8
 k7:e 0=7
 q6:e 6=(V:Int)
 q7:e 7=(p:Int)
 cs:(p=0/\V=0/\e 8=0)\/(1<=p/\p<=1000000/\V=vof ph L p/\V≠0/\e 8=(dep ph L 1 p:Int)-(dep ph L 2 p:Int))
 best: ∀q,vof ph L q<=V
 xe:Xe ph L p (L.map Od.rest) T r' V
 len:r'.length=L.length
 pri: ∀i k,i<L.length->k<L.length->(nth L i).side=(nth L k).side->wt ph (nth L i)=false->zcy (nth L i) (nth L k) i k=true->r'.getD k 0<(nth L k).rest->r'.getD i 0=0
structure St (w:World) (ub:Obj) (g t:Nat) (r:List Nat) (wr:World):Prop where
 bel:Below w.heap.size w wr
 ev:wr.heap[w.heap.size]?=some ub
 row:wr.ownsRow (w.heap.size+1) 3 1 (.slice (some ⟨g,0,none⟩) t t) t (r.map fun x=>iv (x:Nat))
section
variable {w wr w':World} {ub:Obj} {g t k:Nat} {r:List Nat}
theorem St.ext (h:St w ub g t r wr)(hb:Below wr.heap.size wr w'):St w ub g t r w':=⟨h.bel.trans (hb.mono h.bel.size),zau hb h.ev,zbe h.row hb⟩
theorem St.len (h:St w ub g t r wr):r.length=t:=by simpa using h.row.1
theorem St.get (h:St w ub g t r wr)(hk:k<t):wr.cell? ⟨g,k,none⟩=some (.int .i64 ((r.getD k 0:Nat):Int))/\wr.frozen? ⟨g,k,none⟩=false:=by
 have hl:=h.len
 obtain ⟨g',cap,e,-,-,-,hc,hf⟩:=own_cellsK h.row k (iv ((r.getD k 0:Nat):Int)) (by simp[List.getD,show k<r.length by omega])
 simp only[Value.slice.injEq,Option.some.injEq,Addr.mk.injEq] at e
 obtain ⟨⟨rfl,-⟩,-⟩:=e
 exact⟨hc,hf⟩
theorem St.gt (h:St w ub g t r wr):w.heap.size+1<=g/\g<wr.heap.size:=h.row.lt g rfl
theorem St.set (h:St w ub g t r wr)(v:Nat):St w ub g t (r.set k v) (wr.setCell ⟨g,k,none⟩ (.int .i64 (v:Nat))):=by
 have hg:=h.gt
 refine⟨⟨h.bel.os,h.bel.tape,h.bel.output,by simpa [World.setCell] using h.bel.size,fun q hq=>?_⟩,?_,?_⟩
 .rw[bhs wr ⟨g,k,none⟩ _ q (by show q≠g;omega)]
  exact h.bel.block q hq
 .rw[bhs wr ⟨g,k,none⟩ _ _ (by show w.heap.size≠g;omega)]
  exact h.ev
 .have:=own_setR h.row g k (.int .i64 (v:Nat)) rfl
  rw[List.map_set]
  exact this
end
theorem kCrossed_any (a:Option Addr)(c ph t:Nat)(L:List Od)(ref:Nat)(al:Option Addr)(cl:Nat)(E:List (Nat->Int))(e:Nat->Int)(T:List (Nat->Int))(e8:Nat->Int)(F:List (Nat->Int))(r':List Nat)(V p:Nat)(w:World)(R:EW)(ht:L.length=t)(hn:L.length<=1048576)(h:OrdsAt w a ph L)(hl:Liv L)(hd: ∀s p,dep ph L s p<=1000000000)(hone:oneId L)(hrb: ∀j,(nth L j).rest<=1000000000)(href:ref<=1000001)
  (hE:ze1 w al E.length (evAt E))(hEn:E.length<=36)(hC:Cx ph L E e T e8 F r' V p)
  (hR: ∀w',Below w.heap.size w w'->R (.returned (.bool true)) w'):Calls Tryz.prog 33 #[.slice a t c,.int .i64 (ref:Nat),.slice al E.length cl] w R:=by
 have HR:Hid (∀w',Below w.heap.size w w'->R (.returned (.bool true)) w'):=hR
 have HO:Hid (OrdsAt w a ph L):=h
 have HE:Hid (ze1 w al E.length (evAt E)):=hE
 have HC:Hid (Cx ph L E e T e8 F r' V p):=hC
 have HL:Hid (L.length=t/\L.length<=1048576/\Liv L/\(∀s p,dep ph L s p<=1000000000)/\oneId L):=⟨ht,hn,hl,hd,hone⟩
 have HRB:Hid (∀j,(nth L j).rest<=1000000000):=hrb
 have hn':t<=1048576:=by omega
 have hV:V<=1000000000:=by
  rcases hC.cs with ⟨-,h,-⟩|⟨-,-,h,-⟩
  .omega
  .rw[h];exact llt (Nat.min_le_left _ _) (hd 1 p)
 have hp:p<=1000000:=by
  rcases hC.cs with ⟨h,-,-⟩|⟨-,h,-⟩
  .omega
  .exact h
 obtain ⟨ne,hne⟩: ∃y,y=E.length:=⟨_,rfl⟩
 have HN:Hid (E.length=ne):=hne.symm
 have hne0:0<ne:=by rw[hne,hC.ev];simp
 rw[←hne] at hEn
 rw[←hne]
 obtain ⟨ge,oe,eal,hc⟩:=hE 0 (by rw[←hne];exact hne0)
 subst eal
 have he0:evAt E 0=e:=by rw[hC.ev];rfl
 rw[he0] at hc
 have d0:=hc 0 (by decide)
 have d1:=hc 1 (by decide)
 have d2:=hc 2 (by decide)
 have d3:=hc 3 (by decide)
 have d4:=hc 4 (by decide)
 have d5:=hc 5 (by decide)
 have d6:=hc 6 (by decide)
 have d7:=hc 7 (by decide)
 have d8:=hc 8 (by decide)
 have d9:=hc 9 (by decide)
 simp only[Nat.zero_mul,Nat.add_zero] at d0 d1 d2 d3 d4 d5 d6 d7 d8 d9
 rw[hC.k7] at d0
 rw[hC.q6] at d6
 rw[hC.q7] at d7
 have hne1:(0:Int)<(ne:Int):=by omega
 obtain ⟨W,hW⟩: ∃y,y=w.alloc (.cells #[.int .i64 7,.int .i64 (e 1),.int .i64 (e 2),.int .i64 (e 3),.int .i64 (e 4),.int .i64 (e 5),.int .i64 (V:Nat),.int .i64 (p:Nat),.int .i64 (e 8),.int .i64 (e 9)] 42):=⟨_,rfl⟩
 have HB:Hid (Below w.heap.size w W):=by rw[hW];exact zac w _
 have HG:Hid (W.heap[w.heap.size]?=some (.cells #[.int .i64 7,.int .i64 (e 1),.int .i64 (e 2),.int .i64 (e 3),.int .i64 (e 4),.int .i64 (e 5),.int .i64 (V:Nat),.int .i64 (p:Nat),.int .i64 (e 8),.int .i64 (e 9)] 42 (0,0))):=by rw[hW];exact heap_alloc_new w _
 have g7:(w.alloc (.cells #[.int .i64 7,.int .i64 (e 1),.int .i64 (e 2),.int .i64 (e 3),.int .i64 (e 4),.int .i64 (e 5),.int .i64 (V:Nat),.int .i64 (p:Nat),.int .i64 (e 8),.int .i64 (e 9)] 42)).cell? ⟨w.heap.size,7,none⟩=some (.int .i64 (p:Nat)):=cell_of_row _ _ 7 _ _ (0,0) (heap_alloc_new w _)
 clear hR h hl hd hn ht hone hE hC hne he0 hc hrb
 go_enter Tryz.func33,Tryz.ntmps33
 go_wp2_with fail
 rw[←hW]
 clear hW g7 d0 d1 d2 d3 d4 d5 d6 d7 d8 d9
 refine kVolume_any a c ph t L p W _ HL.o.1 HL.o.2.1 (HO.o.ext HB.o) HL.o.2.2.1 HL.o.2.2.2.1 ?_
 intro w2 hb2
 have HB2:Hid (Below w.heap.size w w2):=HB.o.trans (hb2.mono HB.o.size)
 have HG2:Hid (w2.heap[w.heap.size]?=some (.cells #[.int .i64 7,.int .i64 (e 1),.int .i64 (e 2),.int .i64 (e 3),.int .i64 (e 4),.int .i64 (e 5),.int .i64 (V:Nat),.int .i64 (p:Nat),.int .i64 (e 8),.int .i64 (e 9)] 42 (0,0))):=zau hb2 HG.o
 have g6:w2.cell? ⟨w.heap.size,6,none⟩=some (.int .i64 (V:Nat)):=cell_of_row _ _ 6 _ _ (0,0) HG2.o
 clear hb2 HG HB
 go_wp2_with fail
 refine kBest_any a c ph t L ref V w2 _ HL.o.1 HL.o.2.1 (HO.o.ext HB2.o) HL.o.2.2.1 HL.o.2.2.2.1 href HC.o.best ?_
 intro w3 hb3
 have HB3:Hid (Below w.heap.size w w3):=HB2.o.trans (hb3.mono HB2.o.size)
 have HG3:Hid (w3.heap[w.heap.size]?=some (.cells #[.int .i64 7,.int .i64 (e 1),.int .i64 (e 2),.int .i64 (e 3),.int .i64 (e 4),.int .i64 (e 5),.int .i64 (V:Nat),.int .i64 (p:Nat),.int .i64 (e 8),.int .i64 (e 9)] 42 (0,0))):=zau hb3 HG2.o
 have c0:w3.cell? ⟨w.heap.size,0,none⟩=some (.int .i64 7):=cell_of_row _ _ 0 _ _ (0,0) HG3.o
 have c6:w3.cell? ⟨w.heap.size,6,none⟩=some (.int .i64 (V:Nat)):=cell_of_row _ _ 6 _ _ (0,0) HG3.o
 have c7:w3.cell? ⟨w.heap.size,7,none⟩=some (.int .i64 (p:Nat)):=cell_of_row _ _ 7 _ _ (0,0) HG3.o
 have c8:w3.cell? ⟨w.heap.size,8,none⟩=some (.int .i64 (e 8)):=cell_of_row _ _ 8 _ _ (0,0) HG3.o
 clear hb3 HG2 HB2 g6
 go_upto_region 4 with fail
 go_cut [55] (fun c wx=>c= .bool false/\Below w.heap.size w wx/\wx.heap[w.heap.size]?=some (.cells #[.int .i64 7,.int .i64 (e 1),.int .i64 (e 2),.int .i64 (e 3),.int .i64 (e 4),.int .i64 (e 5),.int .i64 (V:Nat),.int .i64 (p:Nat),.int .i64 (e 8),.int .i64 (e 9)] 42 (0,0)))
 case first=>
  as_aux_lemma=>
   rcases HC.o.cs with ⟨h1,h2,h3⟩|⟨h1,-⟩
   .rw[h2] at c6
    rw[h1] at c7
    rw[h3] at c8
    go_wp2_with fail
    go_meet
    exact⟨rfl,HB3.o,HG3.o⟩
   .have bp:((p:Int)==0)=false:=by simp;omega
    go_wp2_with fail
    go_meet
    exact⟨rfl,HB3.o,HG3.o⟩
 case rest=>
  obtain ⟨rfl,hb4,hg4⟩:=hcut
  have HB4:Hid (Below w.heap.size w wc):=hb4
  have HG4:Hid (wc.heap[w.heap.size]?=some (.cells #[.int .i64 7,.int .i64 (e 1),.int .i64 (e 2),.int .i64 (e 3),.int .i64 (e 4),.int .i64 (e 5),.int .i64 (V:Nat),.int .i64 (p:Nat),.int .i64 (e 8),.int .i64 (e 9)] 42 (0,0))):=hg4
  have c6:wc.cell? ⟨w.heap.size,6,none⟩=some (.int .i64 (V:Nat)):=cell_of_row _ _ 6 _ _ (0,0) HG4.o
  have c7:wc.cell? ⟨w.heap.size,7,none⟩=some (.int .i64 (p:Nat)):=cell_of_row _ _ 7 _ _ (0,0) HG4.o
  have c8:wc.cell? ⟨w.heap.size,8,none⟩=some (.int .i64 (e 8)):=cell_of_row _ _ 8 _ _ (0,0) HG4.o
  clear hb4 hg4 HB3 HG3 c0
  go_upto_region 6 with fail
  go_cut [83] (fun c wx=>c= .bool false/\Below w.heap.size w wx/\wx.heap[w.heap.size]?=some (.cells #[.int .i64 7,.int .i64 (e 1),.int .i64 (e 2),.int .i64 (e 3),.int .i64 (e 4),.int .i64 (e 5),.int .i64 (V:Nat),.int .i64 (p:Nat),.int .i64 (e 8),.int .i64 (e 9)] 42 (0,0)))
  case first=>
   as_aux_lemma=>
    rcases HC.o.cs with ⟨h1,h2,h3⟩|⟨h1,-,h3,h4,h5⟩
    .rw[h1] at c7
     clear c6 c8
     go_quiet (fail)
     go_wp2_with fail
     go_meet
     exact⟨rfl,HB4.o.trans ((below_drewN br _).mono HB4.o.size),HG4.o⟩
    .rw[h5] at c8
     have b1:decide ((0:Int)<(p:Int))=true:=by simp;omega
     have b1N:decide (0<p)=true:=by simp;omega
     clear HC
     subst h3
     generalize vof ph L p=V at *
     have b2:((V:Int) !=(V:Int))=false:=by simp
     have b3:((V:Int)==0)=false:=by simp;omega
     have HOc:Hid (OrdsAt wc a ph L):=HO.o.ext HB4.o
     have dd1:=HL.o.2.2.2.1 1 p
     have dd2:=HL.o.2.2.2.1 2 p
     clear h4 h5
     generalize hD1:dep ph L 1 p=D1 at *
     generalize hD2:dep ph L 2 p=D2 at *
     have HD1:Hid (dep ph L 1 p=D1):=hD1
     have HD2:Hid (dep ph L 2 p=D2):=hD2
     have HC1:Hid (∀(W:World) (R:EW),Below wc.heap.size wc W->(∀w',Below W.heap.size W w'->R (.returned (.int .i64 (D1:Nat))) w')->Calls Tryz.prog 64 #[.slice a t c,.int .i64 1,.int .i64 (p:Nat)] W R):=fun W R hb k=>kDepth_at a c ph t L 1 p W R HL.o.1 HL.o.2.1 (HOc.o.ext hb) HL.o.2.2.1 (HL.o.2.2.2.1 1 p) 1 rfl (by rw[HD1.o];exact k)
     have HC2:Hid (∀(W:World) (R:EW),Below wc.heap.size wc W->(∀w',Below W.heap.size W w'->R (.returned (.int .i64 (D2:Nat))) w')->Calls Tryz.prog 64 #[.slice a t c,.int .i64 2,.int .i64 (p:Nat)] W R):=fun W R hb k=>kDepth_at a c ph t L 2 p W R HL.o.1 HL.o.2.1 (HOc.o.ext hb) HL.o.2.2.1 (HL.o.2.2.2.1 2 p) 2 rfl (by rw[HD2.o];exact k)
     have HG5:Hid (∀w',Below wc.heap.size wc w'->w'.cell? ⟨w.heap.size,6,none⟩=some (.int .i64 (V:Nat))/\w'.cell? ⟨w.heap.size,7,none⟩=some (.int .i64 (p:Nat))/\w'.cell? ⟨w.heap.size,8,none⟩=some (.int .i64 ((D1:Int)-(D2:Int)))):=fun w' hb=>⟨zaa hb c6,zaa hb c7,zaa hb c8⟩
     have HF:Hid (∀w',Below wc.heap.size wc w'->Below w.heap.size w w'/\w'.heap[w.heap.size]?=some (.cells #[.int .i64 7,.int .i64 (e 1),.int .i64 (e 2),.int .i64 (e 3),.int .i64 (e 4),.int .i64 (e 5),.int .i64 (V:Nat),.int .i64 (p:Nat),.int .i64 (e 8),.int .i64 (e 9)] 42 (0,0))):=fun w' hb=>⟨HB4.o.trans (hb.mono HB4.o.size),zau hb HG4.o⟩
     have bs:(((D1:Int)-(D2:Int)) !=((D1:Int)-(D2:Int)))=false:=by simp
     clear hD1 hD2 HD1 HD2 HL HE HO HN HOc HB4 HG4 HR href hn' hV hp hEn hne0 hne1
     go_region_held3 (fun w'=>w'.cell? ⟨w.heap.size,6,none⟩=some (.int .i64 (V:Nat))/\w'.cell? ⟨w.heap.size,7,none⟩=some (.int .i64 (p:Nat))/\w'.cell? ⟨w.heap.size,8,none⟩=some (.int .i64 ((D1:Int)-(D2:Int)))/\Below wc.heap.size wc w') (first|assumption|exact⟨c6,c7,c8,br.drew⟩) (first
      |(go_at_call_of 64 (Value.int .i64 1);obtain ⟨hq6,hq7,hq8,hq⟩:(_/\_/\_/\Below wc.heap.size wc _):=(by assumption);refine HC1.o _ _ hq ?_;intro wq hbq;have hQ:=And.intro (zaa hbq hq6) (And.intro (zaa hbq hq7) (And.intro (zaa hbq hq8) (zad hq hbq)));clear hq6 hq7 hq8 hq hbq)
      |(go_at_call_of 64 (Value.int .i64 2);obtain ⟨hq6,hq7,hq8,hq⟩:(_/\_/\_/\Below wc.heap.size wc _):=(by assumption);refine HC2.o _ _ hq ?_;intro wq hbq;have hQ:=And.intro (zaa hbq hq6) (And.intro (zaa hbq hq7) (And.intro (zaa hbq hq8) (zad hq hbq)));clear hq6 hq7 hq8 hq hbq))
     go_wp2_with fail
     go_meet
     exact⟨by rw[IntWalk.i64_in _ (by omega)];simp,HF.o _ hQ.2.2.2⟩
  case rest=>
   as_aux_lemma=>
    obtain ⟨rfl,hb5,hg5⟩:=hcut
    have HB5:Hid (Below w.heap.size w wc):=hb5
    have HG5:Hid (wc.heap[w.heap.size]?=some (.cells #[.int .i64 7,.int .i64 (e 1),.int .i64 (e 2),.int .i64 (e 3),.int .i64 (e 4),.int .i64 (e 5),.int .i64 (V:Nat),.int .i64 (p:Nat),.int .i64 (e 8),.int .i64 (e 9)] 42 (0,0))):=hg5
    clear hb5 hg5 HB4 HG4 c6 c7 c8
    obtain ⟨i0,hi,hz0,hz1,hz2⟩:=info_parts Tryz.infoInt
    have HI:Hid (Tryz.prog.info? 3=some i0/\i0.zero=some (.int .i64 0)/\i0.size=1/\i0.bytes=8):=⟨hi,hz0,hz1,hz2⟩
    clear hi hz0 hz1 hz2
    obtain ⟨ub,hub⟩: ∃y,y=Obj.cells #[.int .i64 7,.int .i64 (e 1),.int .i64 (e 2),.int .i64 (e 3),.int .i64 (e 4),.int .i64 (e 5),.int .i64 (V:Nat),.int .i64 (p:Nat),.int .i64 (e 8),.int .i64 (e 9)] 42 (0,0):=⟨_,rfl⟩
    rw[←hub] at HG5
    have HU:Hid (ub=(.cells #[.int .i64 7,.int .i64 (e 1),.int .i64 (e 2),.int .i64 (e 3),.int .i64 (e 4),.int .i64 (e 5),.int .i64 (V:Nat),.int .i64 (p:Nat),.int .i64 (e 8),.int .i64 (e 9)] 42 (0,0))):=hub
    have hwc:w.heap.size+1<=wc.heap.size:=zak HG5.o
    clear hub
    go_wp2_with (refine wpList_make_full _ rfl _ _ _ rfl (w.heap.size+1) 3 i0 (.int .i64 0) 1 Tryz.underlying26 HI.o.1 HI.o.2.1 HI.o.2.2.1 _ _ _ _ t rfl rfl ?c1 ?c2 ?c3 ?c4 hwc ?_)
    case c1=>rfl
    case c2=>rfl
    case c3=>rw[HI.o.2.2.2];omega
    case c4=>unfold maxLen;omega
    intro w6 hown hgr
    obtain ⟨gr,hgr0⟩: ∃y,y=wc.heap.size:=⟨_,rfl⟩
    have HS6:Hid (St w ub gr t (List.replicate t 0) w6):=by
     have hb6:Below wc.heap.size wc w6:=⟨hgr.os,hgr.tape,hgr.output,hgr.size,fun k hk=>hgr.block k hk (by simp)⟩
     refine⟨HB5.o.trans (hb6.mono HB5.o.size),zau hb6 HG5.o,?_⟩
     rw[hgr0]
     have he:((List.replicate t 0).map fun x:Nat=>iv (x:Nat))=(madeCells #[Value.int .i64 0] t).toList:=by
      rw[toList_madeCells_one]
      simp[iv]
     rw[he]
     exact hown
    rw[←hgr0]
    clear hown hgr hgr0 HB5 HG5 HI hwc
    go_wp2_with fail
    go_loopw [11] (fun u wr=> ∃(i:Nat) (r:List Nat),i<=t/\u= .int .i64 i/\St w ub gr t r wr/\ ∀j,j<i->r.getD j 0=(nth L j).rest) (fun u _=>t-(intOf u).toNat)
    case atStart=>exact⟨0,_,Nat.zero_le _,rfl,HS6.o,fun j hj=>absurd hj (Nat.not_lt_zero _)⟩
    case round=>
     as_aux_lemma=>
      clear HS6
      obtain ⟨i,r,hi,rfl,hS,hr⟩:=hrel
      have HS:Hid (St w ub gr t r wr):=hS
      have Hr:Hid (∀j,j<i->r.getD j 0=(nth L j).rest):=hr
      clear hS hr
      by_cases hlt:i<t
      .obtain ⟨g,o,rfl,-,-,-,-,x4,-⟩:=(HO.o.ext HS.o.bel) i (by rw[HL.o.1];exact hlt)
       obtain ⟨q,hq⟩: ∃y,y=(nth L i).rest:=⟨_,rfl⟩
       rw[←hq] at x4
       obtain ⟨y4,z4⟩:=HS.o.get hlt
       have HS':Hid (St w ub gr t (r.set i q) (wr.setCell ⟨gr,i,none⟩ (.int .i64 (q:Nat)))):=HS.o.set q
       have Hr':Hid (∀j,j<i+1->(r.set i q).getD j 0=(nth L j).rest):=fun j hj=>by
        rw[set_getD _ _ _ _ (by rw[HS.o.len];exact hlt)]
        by_cases e:j=i
        .rw[if_pos e,hq,e]
        .rw[if_neg e]
         exact Hr.o j (by omega)
       have hi0:(0:Int)<=(i:Int):=by omega
       have hi1:(i:Int)<(t:Int):=by omega
       clear hq HS Hr
       go_wp2_with fail
       go_roundw
       case rel=>exact⟨i+1,r.set i q,by omega,by go_num,HS'.o,Hr'.o⟩
       case measure=>simp only[intOf];omega
      .have hin:t=i:=by omega
       subst hin
       have hrr:r=L.map Od.rest:=by
        apply List.ext_getElem (by rw[HS.o.len,List.length_map,HL.o.1])
        intro k h1 h2
        have h3:=Hr.o k (by rw[HS.o.len] at h1;exact h1)
        have h4:k<L.length:=by simpa using h2
        rw[←rests_get L k h4] at h3
        simpa [List.getD,h1,h4] using h3
       subst hrr
       clear Hr
       go_wp2_with fail
       go_loopw [12,13,14,15,16,17,18] (fun u12 u13 _ _ _ _ _ wq=> ∃(k:Nat) (r:List Nat) (s s':Nat),1<=k/\k<=T.length+1/\u12= .int .i64 s/\u13= .int .i64 k/\St w ub gr t r wq/\Xe ph L p r (T.drop (k-1)) r' s'/\s+s'=V/\ ∀j,r.getD j 0<=1000000000) (fun _ u13 _ _ _ _ _ _=>ne-(intOf u13).toNat)
       case atStart=>exact⟨1,_,0,V,nr,by omega,rfl,rfl,HS.o,HC.o.xe,by omega,fun j=>by
        by_cases hj:j<L.length
        .rw[rests_get L j hj]
         exact HRB.o j
        .simp[List.getD,hj]⟩
       case round=>
        as_aux_lemma=>
         clear HS
         obtain ⟨k,r,s,s',hk1,hkT,rfl,rfl,hS,hX,hsV,hrb⟩:=hrel
         have Hrb:Hid (∀j,r.getD j 0<=1000000000):=hrb
         clear hrb
         have HS:Hid (St w ub gr t r wr):=hS
         have hnT:ne=T.length+2+F.length:=by rw[←HN.o,HC.o.ev];simp;omega
         have hkn:k<ne:=by omega
         have HnT:Hid (ne=T.length+2+F.length):=hnT
         clear hnT
         obtain ⟨g',o',e',hc⟩:=(HE.o.below HS.o.bel nr) k (by rw[HN.o];exact hkn)
         simp only[Option.some.injEq,Addr.mk.injEq,and_true] at e'
         obtain ⟨rfl,rfl⟩:=e'
         obtain ⟨v,hv⟩: ∃y,y=evAt E k:=⟨_,rfl⟩
         rw[←hv] at hc
         have hk0:(0:Int)<=(k:Int):=by omega
         have hkn':(k:Int)<(ne:Int):=by omega
         have hvT:v=(T++e8::F).getD (k-1) (fun _=>0):=by
          rw[hv,HC.o.ev]
          unfold evAt
          obtain ⟨k',rfl⟩: ∃k',k=k'+1:=⟨k-1,by omega⟩
          simp[List.getD]
         have d0:=hc 0 (by decide)
         rw[Nat.add_zero] at d0
         clear hS hv
         by_cases hlt:k-1<T.length
         .have hd:T.drop (k-1)=v::T.drop k:=by
           rw[List.drop_eq_getElem_cons hlt,hvT,show k-1+1=k by omega]
           simp[List.getD,List.getElem?_append,hlt]
          rw[hd] at hX
          obtain ⟨x,y,m,s1,hx,hy,hxy,v0,v4,v5,v6,v7,hdx,hdy,hmx,hmy,hs1,hX2⟩:=hX
          have d1:=hc 1 (by decide)
          have d2:=hc 2 (by decide)
          have d3:=hc 3 (by decide)
          have d4:=hc 4 (by decide)
          have d5:=hc 5 (by decide)
          have d6:=hc 6 (by decide)
          have d7:=hc 7 (by decide)
          have d8:=hc 8 (by decide)
          have d9:=hc 9 (by decide)
          obtain ⟨bx,tx,sx⟩:=inDep_iff.1 hdx
          obtain ⟨by_,ty,sy⟩:=inDep_iff.1 hdy
          have wx:wt ph (nth L x)=false:=by unfold bk at bx;simp only[Bool.and_eq_true,Bool.not_eq_true'] at bx;exact bx.2
          have wy:wt ph (nth L y)=false:=by unfold bk at by_;simp only[Bool.and_eq_true,Bool.not_eq_true'] at by_;exact by_.2
          obtain ⟨ia,hia⟩: ∃z,z=(nth L x).id:=⟨_,rfl⟩
          obtain ⟨ib,hib⟩: ∃z,z=(nth L y).id:=⟨_,rfl⟩
          rw[v0] at d0
          rw[v4,←hia] at d4
          rw[v5,←hib] at d5
          rw[v6] at d6
          rw[v7] at d7
          have HX2:Hid (Xe ph L p ((r.set x (r.getD x 0-m)).set y (r.getD y 0-m)) (T.drop k) r' s1/\s'=m+s1/\m<=r.getD x 0/\m<=r.getD y 0/\x≠y):=⟨hX2,hs1,hmx,hmy,hxy⟩
          have HXY:Hid (x<L.length/\y<L.length/\tk (nth L x) p=true/\tk (nth L y) p=true/\(∀j,j<x->(nth L j).id≠ia)/\(∀j,j<y->(nth L j).id≠ib)/\(nth L x).id=ia/\(nth L y).id=ib/\(nth L x).side=1/\(nth L y).side=2):=⟨hx,hy,tx,ty,fun j hj e=>by have:=HL.o.2.2.2.2 j x (by omega) hx (by rw[e,hia]);omega,fun j hj e=>by have:=HL.o.2.2.2.2 j y (by omega) hy (by rw[e,hib]);omega,hia.symm,hib.symm,sx,sy⟩
          have hxt:x<t:=by rw[←HL.o.1];exact hx
          have hyt:y<t:=by rw[←HL.o.1];exact hy
          clear hc hd hX2 hs1 hxy bx tx by_ ty hdx hdy hvT v0 v4 v5 v6 v7 hia hib
          obtain ⟨W,hW⟩: ∃z,z=wr.alloc (.cells #[.int .i64 3,.int .i64 (v 1),.int .i64 (v 2),.int .i64 (v 3),.int .i64 (ia:Nat),.int .i64 (ib:Nat),.int .i64 (m:Nat),.int .i64 (p:Nat),.int .i64 (v 8),.int .i64 (v 9)] 42):=⟨_,rfl⟩
          obtain ⟨G,hG⟩: ∃z,z=wr.heap.size:=⟨_,rfl⟩
          have hbW:Below wr.heap.size wr W:=by rw[hW];exact zac wr _
          have HS1:Hid (St w ub gr t r W):=HS.o.ext hbW
          have HG1:Hid (W.heap[G]?=some (.cells #[.int .i64 3,.int .i64 (v 1),.int .i64 (v 2),.int .i64 (v 3),.int .i64 (ia:Nat),.int .i64 (ib:Nat),.int .i64 (m:Nat),.int .i64 (p:Nat),.int .i64 (v 8),.int .i64 (v 9)] 42 (0,0))/\gr<G):=⟨by rw[hW,hG];exact heap_alloc_new wr _,by rw[hG];exact HS.o.gt.2⟩
          have c4:(wr.alloc (.cells #[.int .i64 3,.int .i64 (v 1),.int .i64 (v 2),.int .i64 (v 3),.int .i64 (ia:Nat),.int .i64 (ib:Nat),.int .i64 (m:Nat),.int .i64 (p:Nat),.int .i64 (v 8),.int .i64 (v 9)] 42)).cell? ⟨wr.heap.size,4,none⟩=some (.int .i64 (ia:Nat)):=cell_of_row _ _ 4 _ _ (0,0) (heap_alloc_new wr _)
          have HW:Hid (W=wr.alloc (.cells #[.int .i64 3,.int .i64 (v 1),.int .i64 (v 2),.int .i64 (v 3),.int .i64 (ia:Nat),.int .i64 (ib:Nat),.int .i64 (m:Nat),.int .i64 (p:Nat),.int .i64 (v 8),.int .i64 (v 9)] 42)/\G=wr.heap.size):=⟨hW,hG⟩
          clear hW hG hbW HS
          go_wp2_with fail
          rw[←HW.o.1,←HW.o.2]
          clear c4 HW d0 d1 d2 d3 d4 d5 d6 d7 d8 d9
          obtain ⟨OX,hOX⟩: ∃z,z=nth L x:=⟨_,rfl⟩
          obtain ⟨OY,hOY⟩: ∃z,z=nth L y:=⟨_,rfl⟩
          obtain ⟨g,o,ea,x0,x1,x2,x3,x4,x5⟩:=(HO.o.ext HS1.o.bel) x hx
          obtain ⟨g',o',ea',y0,y1,y2,y3,y4,y5⟩:=(HO.o.ext HS1.o.bel) y hy
          subst ea
          simp only[Option.some.injEq,Addr.mk.injEq,and_true] at ea'
          obtain ⟨rfl,rfl⟩:=ea'
          rw[wx] at x5
          rw[wy] at y5
          rw[←hOX] at x0 x1 x2 x3 x4
          rw[←hOY] at y0 y1 y2 y3 y4
          have bsx:((OX.side:Int) !=1)=false:=by rw[hOX,sx];rfl
          have bsy:((OY.side:Int) !=2)=false:=by rw[hOY,sy];rfl
          have HOX:Hid (tk OX p=true/\(OX.side=1\/OX.side=2)):=⟨by rw[hOX];exact HXY.o.2.2.1,by rw[hOX];exact .inl sx⟩
          have HOY:Hid (tk OY p=true/\(OY.side=1\/OY.side=2)):=⟨by rw[hOY];exact HXY.o.2.2.2.1,by rw[hOY];exact .inr sy⟩
          have hx0:(0:Int)<=(x:Int):=by omega
          have hx1:(x:Int)<(t:Int):=by omega
          have hy0:(0:Int)<=(y:Int):=by omega
          have hy1:(y:Int)<(t:Int):=by omega
          clear hOX hOY wx wy sx sy hx hy
          refine kFind_at _ c ph t L ia x W _ HL.o.1 HL.o.2.1 (HO.o.ext HS1.o.bel) (.inl ⟨x,rfl,HXY.o.1,by rw[HXY.o.2.2.2.2.2.2.1],fun j hj=>by have:=HXY.o.2.2.2.2.1 j hj;omega⟩) ?_
          have c5:W.cell? ⟨G,5,none⟩=some (.int .i64 (ib:Nat)):=cell_of_row _ _ 5 _ _ (0,0) HG1.o.1
          go_wp2_with fail
          refine kFind_at _ c ph t L ib y W _ HL.o.1 HL.o.2.1 (HO.o.ext HS1.o.bel) (.inl ⟨y,rfl,HXY.o.2.1,by rw[HXY.o.2.2.2.2.2.2.2.1],fun j hj=>by have:=HXY.o.2.2.2.2.2.1 j hj;omega⟩) ?_
          clear c5
          have c7:W.cell? ⟨G,7,none⟩=some (.int .i64 (p:Nat)):=cell_of_row _ _ 7 _ _ (0,0) HG1.o.1
          have e7:W.cell? ⟨w.heap.size,7,none⟩=some (.int .i64 (p:Nat)):=by have h:=HS1.o.ev;rw[HU.o] at h;exact cell_of_row _ _ 7 _ _ (0,0) h
          have bpp:((p:Int) !=(p:Int))=false:=by simp
          go_upto_region 20 with fail
          go_cut [169] (fun c wx=>c= .bool false/\wx=W)
          case first=>
           as_aux_lemma=>
            clear HR HC HL HE HO HN HX2 HXY
            go_wp2_with fail
            go_meet
            exact⟨rfl,rfl⟩
          case rest=>
           as_aux_lemma=>
            obtain ⟨rfl,rfl⟩:=hcut
            clear e7 bpp bsx bsy
            go_wp2_with fail
            refine wp_region_still_tail 6 (by kernel_rfl) (by kernel_rfl) ?_
            simp only[List.take_succ_cons,List.take_zero,List.drop_succ_cons,List.drop_zero]
            change wpStill _ _ wc.drew (fun a'=>wpList _ _ _ _ a' wc.drew) _ _
            have HS2:Hid (St w ub gr t r wc.drew):=HS1.o.ext (br.drew)
            have HG2:Hid (wc.drew.heap[G]?=some (.cells #[.int .i64 3,.int .i64 (v 1),.int .i64 (v 2),.int .i64 (v 3),.int .i64 (ia:Nat),.int .i64 (ib:Nat),.int .i64 (m:Nat),.int .i64 (p:Nat),.int .i64 (v 8),.int .i64 (v 9)] 42 (0,0))):=HG1.o.1
            change wc.drew.cell? _=_ at x0 x1 x2 x3 x4 x5 y0 y1 y2 y3 y4 y5 c7
            clear HS1
            generalize wc.drew=W2 at *
            repeat still_step
            refine wpStill_nil ?_
            go_wp2_with fail
            refine kTakes_any OX false p W2 _ HOX.o.2 ?_
            intro W3 hb3
            rw[HOX.o.1]
            have HS3:Hid (St w ub gr t r W3):=HS2.o.ext hb3
            have HG3:Hid (W3.heap[G]?=some (.cells #[.int .i64 3,.int .i64 (v 1),.int .i64 (v 2),.int .i64 (v 3),.int .i64 (ia:Nat),.int .i64 (ib:Nat),.int .i64 (m:Nat),.int .i64 (p:Nat),.int .i64 (v 8),.int .i64 (v 9)] 42 (0,0))):=zau hb3 HG2.o
            have c7:W3.cell? ⟨G,7,none⟩=some (.int .i64 (p:Nat)):=cell_of_row _ _ 7 _ _ (0,0) HG3.o
            have y0:=zaa hb3 y0
            have y1:=zaa hb3 y1
            have y2:=zaa hb3 y2
            have y3:=zaa hb3 y3
            have y4:=zaa hb3 y4
            have y5:=zaa hb3 y5
            clear x0 x1 x2 x3 x4 x5 hb3 HS2 HG2
            go_wp2_with fail
            refine wp_region_still_tail 6 (by kernel_rfl) (by kernel_rfl) ?_
            simp only[List.take_succ_cons,List.take_zero,List.drop_succ_cons,List.drop_zero]
            change wpStill _ _ W3.drew (fun a'=>wpList _ _ _ _ a' W3.drew) _ _
            have HS4:Hid (St w ub gr t r W3.drew):=HS3.o.ext (br.drew)
            have HG4:Hid (W3.drew.heap[G]?=some (.cells #[.int .i64 3,.int .i64 (v 1),.int .i64 (v 2),.int .i64 (v 3),.int .i64 (ia:Nat),.int .i64 (ib:Nat),.int .i64 (m:Nat),.int .i64 (p:Nat),.int .i64 (v 8),.int .i64 (v 9)] 42 (0,0))):=HG3.o
            change W3.drew.cell? _=_ at y0 y1 y2 y3 y4 y5 c7
            clear HS3
            generalize W3.drew=W4 at *
            repeat still_step
            refine wpStill_nil ?_
            go_wp2_with fail
            refine kTakes_any OY false p W4 _ HOY.o.2 ?_
            intro W5 hb3
            rw[HOY.o.1]
            have HS5:Hid (St w ub gr t r W5):=HS4.o.ext hb3
            have HG5b:Hid (W5.heap[G]?=some (.cells #[.int .i64 3,.int .i64 (v 1),.int .i64 (v 2),.int .i64 (v 3),.int .i64 (ia:Nat),.int .i64 (ib:Nat),.int .i64 (m:Nat),.int .i64 (p:Nat),.int .i64 (v 8),.int .i64 (v 9)] 42 (0,0))):=zau hb3 HG4.o
            have c7:W5.cell? ⟨G,7,none⟩=some (.int .i64 (p:Nat)):=cell_of_row _ _ 7 _ _ (0,0) HG5b.o
            clear y0 y1 y2 y3 y4 y5 hb3 HS4 HG4 c7
            obtain ⟨rx,hrx⟩: ∃z,z=r.getD x 0:=⟨_,rfl⟩
            obtain ⟨ry,hry⟩: ∃z,z=r.getD y 0:=⟨_,rfl⟩
            have hmx:m<=rx:=by rw[hrx];exact HX2.o.2.2.1
            have hmy:m<=ry:=by rw[hry];exact HX2.o.2.2.2.1
            have hrx9:rx<=1000000000:=by rw[hrx];exact Hrb.o x
            have hry9:ry<=1000000000:=by rw[hry];exact Hrb.o y
            have HRX:Hid (r.getD x 0=rx/\r.getD y 0=ry):=⟨hrx.symm,hry.symm⟩
            obtain ⟨z1,f1⟩:=HS5.o.get hxt
            rw[←hrx] at z1
            have c6:W5.cell? ⟨G,6,none⟩=some (.int .i64 (m:Nat)):=cell_of_row _ _ 6 _ _ (0,0) HG5b.o
            clear hrx hry
            go_wp2_with fail
            refine wp_region_still_tail 10 (by kernel_rfl) (by kernel_rfl) ?_
            simp only[List.take_succ_cons,List.take_zero,List.drop_succ_cons,List.drop_zero]
            change wpStill _ _ W5.drew (fun a'=>wpList _ _ _ _ a' W5.drew) _ _
            have HS6:Hid (St w ub gr t (r.set x (rx-m)) (W5.drew.setCell ⟨gr,x,none⟩ (.int .i64 ((rx:Int)-(m:Int))))):=by
             have:=(HS5.o.ext (br.drew)).set (k:=x) (rx-m)
             rw[show (((rx-m:Nat)):Int)=(rx:Int)-(m:Int) by omega] at this
             exact this
            have HG6:Hid ((W5.drew.setCell ⟨gr,x,none⟩ (.int .i64 ((rx:Int)-(m:Int)))).heap[G]?=some (.cells #[.int .i64 3,.int .i64 (v 1),.int .i64 (v 2),.int .i64 (v 3),.int .i64 (ia:Nat),.int .i64 (ib:Nat),.int .i64 (m:Nat),.int .i64 (p:Nat),.int .i64 (v 8),.int .i64 (v 9)] 42 (0,0))):=by
             rw[bhs _ _ _ _ (by show G≠gr;have:=HG1.o.2;omega)]
             exact HG5b.o
            change W5.drew.cell? _=_ at z1 c6
            change W5.drew.frozen? _=_ at f1
            clear HS5 HG5b
            generalize W5.drew=W6 at *
            repeat still_step
            refine wpStill_nil ?_
            go_upto_region 25 with fail
            clear z1 f1 c6
            generalize W6.setCell ⟨gr,x,none⟩ (.int .i64 ((rx:Int)-(m:Int)))=W7 at *
            obtain ⟨z2,f2⟩:=HS6.o.get hyt
            rw[set_getD _ _ _ _ (by have:=HS6.o.len;simp at this;omega),if_neg (fun e=>HX2.o.2.2.2.2 e.symm),HRX.o.2] at z2
            have c6:W7.cell? ⟨G,6,none⟩=some (.int .i64 (m:Nat)):=cell_of_row _ _ 6 _ _ (0,0) HG6.o
            refine wp_region_still_tail 10 (by kernel_rfl) (by kernel_rfl) ?_
            simp only[List.take_succ_cons,List.take_zero,List.drop_succ_cons,List.drop_zero]
            change wpStill _ _ W7.drew (fun a'=>wpList _ _ _ _ a' W7.drew) _ _
            have HS8:Hid (St w ub gr t ((r.set x (rx-m)).set y (ry-m)) (W7.drew.setCell ⟨gr,y,none⟩ (.int .i64 ((ry:Int)-(m:Int))))):=by
             have:=(HS6.o.ext (br.drew)).set (k:=y) (ry-m)
             rw[show (((ry-m:Nat)):Int)=(ry:Int)-(m:Int) by omega] at this
             exact this
            have HG8:Hid ((W7.drew.setCell ⟨gr,y,none⟩ (.int .i64 ((ry:Int)-(m:Int)))).heap[G]?=some (.cells #[.int .i64 3,.int .i64 (v 1),.int .i64 (v 2),.int .i64 (v 3),.int .i64 (ia:Nat),.int .i64 (ib:Nat),.int .i64 (m:Nat),.int .i64 (p:Nat),.int .i64 (v 8),.int .i64 (v 9)] 42 (0,0))):=by
             rw[bhs _ _ _ _ (by show G≠gr;have:=HG1.o.2;omega)]
             exact HG6.o
            change W7.drew.cell? _=_ at z2 c6
            change W7.drew.frozen? _=_ at f2
            clear HS6 HG6
            generalize W7.drew=W8 at *
            repeat still_step
            refine wpStill_nil ?_
            go_upto_region 26 with fail
            clear z2 f2 c6
            generalize W8.setCell ⟨gr,y,none⟩ (.int .i64 ((ry:Int)-(m:Int)))=W9 at *
            have c6:W9.cell? ⟨G,6,none⟩=some (.int .i64 (m:Nat)):=cell_of_row _ _ 6 _ _ (0,0) HG8.o
            obtain ⟨q1,-⟩:=HS8.o.get hxt
            obtain ⟨q2,-⟩:=HS8.o.get hyt
            have hlr:r.length=t:=by have:=HS8.o.len;simpa using this
            rw[set_getD _ _ _ _ (by simp[hlr];omega),if_neg HX2.o.2.2.2.2,set_getD _ _ _ _ (by omega),if_pos rfl] at q1
            rw[set_getD _ _ _ _ (by simp[hlr];omega),if_pos rfl] at q2
            have Hr9:Hid (∀j,((r.set x (rx-m)).set y (ry-m)).getD j 0<=1000000000):=fun j=>by
             rw[set_getD _ _ _ _ (by simp[hlr];omega)]
             split
             .omega
             .rw[set_getD _ _ _ _ (by omega)]
              split
              .omega
              .exact Hrb.o j
            have HX9:Hid (Xe ph L p ((r.set x (rx-m)).set y (ry-m)) (T.drop (k+1-1)) r' s1/\s+m+s1=V):=⟨by have:=HX2.o.1;rw[HRX.o.1,HRX.o.2] at this;exact this,by have:=HX2.o.2.1;omega⟩
            have hsm:s+m<=1000000000:=by have:=HX9.o.2;omega
            clear hlr HRX
            generalize rx-m=rx' at *
            generalize ry-m=ry' at *
            have n1: ¬((rx':Int)<0):=by omega
            have n2: ¬((ry':Int)<0):=by omega
            go_wp2_with fail
            go_roundw
            case rel=>exact⟨k+1,(r.set x rx').set y ry',s+m,s1,by omega,by omega,by go_num,by go_num,HS8.o,HX9.o.1,HX9.o.2,Hr9.o⟩
            case measure=>simp only[intOf];omega
         .have hkT':k=T.length+1:=by omega
          have hXr:r'=r/\s'=0:=by
           rw[List.drop_eq_nil_of_le (by omega)] at hX
           exact hX
          obtain ⟨rfl,rfl⟩:=hXr
          have hv8:v 0=8:=by
           rw[hvT,show k-1=T.length by omega]
           simp[List.getD,HC.o.k8]
          rw[hv8] at d0
          have hsV':s=V:=by omega
          subst hsV'
          clear hX hc hvT hv8 hkT' hsV
          go_wp2_with fail
          clear d0
          go_loopw [19,20,21] (fun u19 _ _ wq=> ∃i:Nat,i<=t/\u19= .int .i64 i/\St w ub gr t r' wq) (fun u19 _ _ _=>t-(intOf u19).toNat)
          case atStart=>exact⟨0,Nat.zero_le _,rfl,HS.o⟩
          case round=>
           as_aux_lemma=>
            clear HS
            obtain ⟨i,hi,rfl,hS⟩:=hrel
            have HS:Hid (St w ub gr t r' wr):=hS
            clear hS
            by_cases hit:i<t
            .go_wp2_with fail
             go_loopw [20,21] (fun u20 _ wq=> ∃j:Nat,j<=t/\u20= .int .i64 j/\St w ub gr t r' wq) (fun u20 _ _=>t-(intOf u20).toNat)
             case atStart=>exact⟨0,Nat.zero_le _,rfl,HS.o⟩
             case round=>
              as_aux_lemma=>
               clear HS
               obtain ⟨j,hj,rfl,hS⟩:=hrel
               have HS:Hid (St w ub gr t r' wr):=hS
               clear hS
               by_cases hjt:j<t
               .obtain ⟨g,o,ea,-,x1,-,-,-,x5⟩:=(HO.o.ext HS.o.bel) i (by rw[HL.o.1];exact hit)
                obtain ⟨g',o',ea',-,y1,-,-,y4,y5⟩:=(HO.o.ext HS.o.bel) j (by rw[HL.o.1];exact hjt)
                subst ea
                simp only[Option.some.injEq,Addr.mk.injEq,and_true] at ea'
                obtain ⟨rfl,rfl⟩:=ea'
                obtain ⟨si,hsi⟩: ∃z,z=(nth L i).side:=⟨_,rfl⟩
                obtain ⟨sj,hsj⟩: ∃z,z=(nth L j).side:=⟨_,rfl⟩
                obtain ⟨wi,hwi⟩: ∃z,z=wt ph (nth L i):=⟨_,rfl⟩
                obtain ⟨wj,hwj⟩: ∃z,z=wt ph (nth L j):=⟨_,rfl⟩
                rw[←hsi] at x1
                rw[←hsj] at y1
                rw[←hwi] at x5
                rw[←hwj] at y5
                have HSW:Hid ((nth L i).side=si/\(nth L j).side=sj/\wt ph (nth L i)=wi):=⟨hsi.symm,hsj.symm,hwi.symm⟩
                have hi0:(0:Int)<=(i:Int):=by omega
                have hi1:(i:Int)<(t:Int):=by omega
                have hj0:(0:Int)<=(j:Int):=by omega
                have hj1:(j:Int)<(t:Int):=by omega
                clear hsi hsj hwi hwj
                go_upto_region 35 with fail
                go_cut [269] (fun c wx=>c= .bool (decide (i=j)||(decide (si≠sj)||(wi||wj)))/\Below wr.heap.size wr wx)
                case first=>
                 as_aux_lemma=>
                  clear HR HC HL HE HO HN HSW HS HRB HU
                  by_cases eij:i=j
                  .subst eij
                   have b1:((i:Int)==(i:Int))=true:=by simp
                   go_quiet (fail)
                   go_wp2_with fail
                   go_meet
                   exact⟨by simp,below_drewN br _⟩
                  .have b1:((i:Int)==(j:Int))=false:=by simp;omega
                   by_cases ess:si=sj
                   .subst ess
                    have b2:((si:Int) !=(si:Int))=false:=by simp
                    cases wi with
                    |true=>
                     go_quiet (fail)
                     go_wp2_with fail
                     go_meet
                     exact⟨by simp,below_drewN br _⟩
                    |false=>
                     cases wj with
                     |true=>
                      go_quiet (fail)
                      go_wp2_with fail
                      go_meet
                      exact⟨by simp,below_drewN br _⟩
                     |false=>
                      go_quiet (fail)
                      go_wp2_with fail
                      go_meet
                      exact⟨by simp[eij],below_drewN br _⟩
                   .have b2:((si:Int) !=(sj:Int))=true:=by simp;omega
                    go_quiet (fail)
                    go_wp2_with fail
                    go_meet
                    exact⟨by simp[ess],below_drewN br _⟩
                case rest=>
                 as_aux_lemma=>
                  obtain ⟨rfl,hbc⟩:=hcut
                  have HSc:Hid (St w ub gr t r' wc):=HS.o.ext hbc
                  obtain ⟨B,hB⟩: ∃z,z=(decide (i=j)||(decide (si≠sj)||(wi||wj))):=⟨_,rfl⟩
                  rw[←hB]
                  have HB:Hid (B=false->i≠j/\si=sj/\wi=false):=fun h=>by rw[hB] at h;simp at h;exact⟨h.1,h.2.1,h.2.2.1⟩
                  have y4:=zaa hbc y4
                  clear hB hbc HS x1 y1 x5 y5
                  cases B with
                  |true=>
                   go_wp2_with fail
                   go_roundw
                   case rel=>exact⟨j+1,by omega,by go_num,HSc.o⟩
                   case measure=>simp only[intOf];omega
                  |false=>
                   go_wp2_with fail
                   refine kAhead_any _ c ph t L i j wc _ HL.o.1 (HO.o.ext HSc.o.bel) HL.o.2.2.1 (by rw[HL.o.1];exact hit) (by rw[HL.o.1];exact hjt) ?_
                   intro w2 hb2
                   have HS2:Hid (St w ub gr t r' w2):=HSc.o.ext hb2
                   have y4:=zaa hb2 y4
                   obtain ⟨z1,-⟩:=HS2.o.get hit
                   obtain ⟨z2,-⟩:=HS2.o.get hjt
                   have hpri:zcy (nth L i) (nth L j) i j=true->r'.getD j 0<(nth L j).rest->r'.getD i 0=0:=fun h1 h2=>HC.o.pri i j (by rw[HL.o.1];exact hit) (by rw[HL.o.1];exact hjt) (by rw[HSW.o.1,HSW.o.2.1];exact(HB.o (by first|rfl|trivial)).2.1) (by rw[HSW.o.2.2];exact(HB.o (by first|rfl|trivial)).2.2) h1 h2
                   clear hb2 HSc
                   generalize zcy (nth L i) (nth L j) i j=ah at *
                   generalize (nth L j).rest=rj at *
                   generalize r'.getD i 0=ri at *
                   generalize r'.getD j 0=rk at *
                   go_upto_region 37 with fail
                   go_cut [293] (fun c wx=>c= .bool false/\Below w2.heap.size w2 wx)
                   case first=>
                    as_aux_lemma=>
                     clear HR HC HL HE HO HN HSW HS2 HB HRB HU
                     cases ah with
                     |false=>
                      go_quiet (fail)
                      go_wp2_with fail
                      go_meet
                      exact⟨rfl,below_drewN br _⟩
                     |true=>
                      by_cases hlt2:rk<rj
                      .have hri:=hpri rfl hlt2
                       subst hri
                       have b1:decide (rk<rj)=true:=by simpa using hlt2
                       have b2:decide ((rk:Int)<(rj:Int))=true:=by simpa using hlt2
                       go_quiet (fail)
                       go_wp2_with fail
                       go_meet
                       exact⟨rfl,below_drewN br _⟩
                      .have b1:decide (rk<rj)=false:=by simpa using hlt2
                       have b2:decide ((rk:Int)<(rj:Int))=false:=by simpa using hlt2
                       clear hpri
                       go_quiet (fail)
                       go_wp2_with fail
                       go_meet
                       exact⟨rfl,below_drewN br _⟩
                   case rest=>
                    obtain ⟨rfl,hbc⟩:=hcut
                    have HS3:Hid (St w ub gr t r' wc):=HS2.o.ext hbc
                    clear hbc hpri y4 z1 z2 HS2
                    go_wp2_with fail
                    go_roundw
                    case rel=>exact⟨j+1,by omega,by go_num,HS3.o⟩
                    case measure=>simp only[intOf];omega
               .have hjn:t=j:=by omega
                subst hjn
                go_wp2_with fail
                go_roundw
                case rel=>exact⟨i+1,by omega,by go_num,HS.o⟩
                case measure=>simp only[intOf];omega
            .have hin2:t=i:=by omega
             subst hin2
             have c6:wr.cell? ⟨w.heap.size,6,none⟩=some (.int .i64 (s:Nat)):=by have h:=HS.o.ev;rw[HU.o] at h;exact cell_of_row _ _ 6 _ _ (0,0) h
             have hfin:Hid (R (.returned (.bool true)) wr):=HR.o wr HS.o.bel
             go_wp2_with fail
             exact zam hfin.o (by simp)
