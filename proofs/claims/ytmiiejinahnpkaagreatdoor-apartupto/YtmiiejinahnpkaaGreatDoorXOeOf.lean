import Derived.Test.YtmiiejinahnpkaaGreatDoorXOaOb
import Derived.Test.YtmiiejinahnpkaaGreatDoorNk
set_option maxRecDepth 100000
set_option maxHeartbeats 4000000
namespace Go.Proofs.YtmiiejinahnpkaaGreatDoor
section
open Go.RowKit Go.Shelf
theorem kFind_any (a:Option Addr)(c ph:Nat)(L:List Od)(id v:Int)(w:World)(R:EW)(hn:L.length<=1048576)(h:OrdsAt w a ph L)
  (hv:(∃k:Nat,v=k/\k<L.length/\((nth L k).id:Int)=id/\ ∀j,j<k->((nth L j).id:Int)≠id)\/(v= -1/\ ∀j,j<L.length->((nth L j).id:Int)≠id))
  (hR:R (.returned (.int .i64 v)) w):Calls Tryz.prog 55 #[.slice a L.length c,.int .i64 id] w R:=by
 have HR:=zl hR
 have HO:=zl h
 have HV:=zl hv
 obtain ⟨n,hnn⟩: ∃y,y=L.length:=⟨_,rfl⟩
 have HN:=zl (hnn.symm)
 rw[←hnn] at hn
 rw[←hnn]
 clear hR h hv hnn
 go_enter Tryz.func55,Tryz.ntmps55
 go_wp2_with fail
 go_loop [5] (fun t=> ∃i:Nat,i<=n/\t= .int .i64 i/\ ∀j,j<i->((nth L j).id:Int)≠id) (fun t=>n-(intOf t).toNat)
 case atStart=>exact⟨0,Nat.zero_le _,rfl,fun j hj=>absurd hj (Nat.not_lt_zero _)⟩
 case round=>
  obtain ⟨i,hi,rfl,hne⟩:=hrel
  have HNe:=zl hne
  clear hne
  by_cases hlt:i<n
  .obtain ⟨g,o,rfl,x0,-⟩:=HO.o i (by rw[HN.o];exact hlt)
   obtain ⟨q,hq⟩: ∃y,y=(nth L i).id:=⟨_,rfl⟩
   rw[←hq] at x0
   have HQ:=zl (hq.symm)
   have hi0:(0:Int)<=(i:Int):=by omega
   have hi1:(i:Int)<(n:Int):=by omega
   clear hq
   by_cases he:(q:Int)=id
   .have hb:((q:Int)==id)=true:=by simpa using he
    have hvi:v=(i:Int):=by
     rcases HV.o with ⟨k,e,hk,e1,e2⟩|⟨-,e2⟩
     .have h1: ¬i<k:=fun hh=>e2 i hh (by rw[HQ.o];exact he)
      have h2: ¬k<i:=fun hh=>HNe.o k hh e1
      omega
     .exact absurd (by rw[HQ.o];exact he) (e2 i (by rw[HN.o];exact hlt))
    subst hvi
    go_wp2_with fail
    exact HR.o
   .have hb:((q:Int)==id)=false:=by simpa using he
    go_wp2_with fail
    go_round
    case rel=>
     refine⟨i+1,by omega,by go_num,fun j hj=>?_⟩
     by_cases e:j=i
     .subst e
      rw[HQ.o]
      exact he
     .exact HNe.o j (by omega)
    case measure=>simp only[intOf];omega
  .have hin:i=n:=by omega
   have hvi:v= -1:=by
    rcases HV.o with ⟨k,e,hk,e1,e2⟩|⟨e,-⟩
    .exact absurd e1 (HNe.o k (by rw[HN.o] at hk;omega))
    .exact e
   subst hvi
   subst hin
   go_wp2_with fail
   exact HR.o
theorem kFind_at (a:Option Addr)(c ph t:Nat)(L:List Od)(id v:Int)(w:World)(R:EW)(ht:L.length=t)(hn:L.length<=1048576)(h:OrdsAt w a ph L)
  (hv:(∃k:Nat,v=k/\k<L.length/\((nth L k).id:Int)=id/\ ∀j,j<k->((nth L j).id:Int)≠id)\/(v= -1/\ ∀j,j<L.length->((nth L j).id:Int)≠id))
  (hR:R (.returned (.int .i64 v)) w):Calls Tryz.prog 55 #[.slice a t c,.int .i64 id] w R:=by
 subst ht
 exact kFind_any a c ph L id v w R hn h hv hR
theorem kApart_any (a:Option Addr)(c:Nat)(L:List Od)(w:World)(R:EW)(hn:L.length<=1048576)(h:OrdsAt w a 1 L)(hp: ∀i,i<L.length->pl (nth L i)=false/\1<=(nth L i).price/\(nth L i).price<=1000000)
  (ha: ∀i j,i<L.length->j<L.length->wt 1 (nth L i)=false->wt 1 (nth L j)=false->(nth L i).side=1->(nth L j).side=2->(nth L i).price<(nth L j).price)
  (hR: ∀w',Below w.heap.size w w'->R (.returned (.bool true)) w'):Calls Tryz.prog 29 #[.slice a L.length c] w R:=by
 have HR:=zl hR
 have HO:=zl h
 have HP:Hid ((∀i,i<L.length->pl (nth L i)=false/\1<=(nth L i).price/\(nth L i).price<=1000000)/\(∀i j,i<L.length->j<L.length->wt 1 (nth L i)=false->wt 1 (nth L j)=false->(nth L i).side=1->(nth L j).side=2->(nth L i).price<(nth L j).price)):=⟨hp,ha⟩
 obtain ⟨n,hnn⟩: ∃y,y=L.length:=⟨_,rfl⟩
 have HN:=zl (hnn.symm)
 rw[←hnn] at hn
 rw[←hnn]
 clear hR h hp ha hnn
 go_enter Tryz.func29,Tryz.ntmps29
 go_wp2_with fail
 go_loopw [3,4,5] (fun t5 t6 t wr=> ∃i B S:Nat,i<=n/\t5= .int .i64 B/\t6= .int .i64 S/\t= .int .i64 i/\Below w.heap.size w wr/\(B=0\/ ∃j,j<n/\wt 1 (nth L j)=false/\(nth L j).side=1/\(nth L j).price=B)/\(S=1000001\/ ∃j,j<n/\wt 1 (nth L j)=false/\(nth L j).side=2/\(nth L j).price=S)) (fun _ _ t _=>n-(intOf t).toNat)
 case atStart=>exact⟨0,0,1000001,Nat.zero_le _,rfl,rfl,rfl,br,.inl rfl,.inl rfl⟩
 case round=>
  obtain ⟨i,B,S,hi,rfl,rfl,rfl,hbr,hB,hS⟩:=hrel
  have HBr:=zl hbr
  have HB:=zl hB
  have HS:=zl hS
  clear hbr hB hS
  by_cases hlt:i<n
  .obtain ⟨g,o,rfl,-,x1,x2,x3,-,x5⟩:=(HO.o.ext HBr.o) i (by rw[HN.o];exact hlt)
   obtain ⟨s,hs⟩: ∃y,y=(nth L i).side:=⟨_,rfl⟩
   obtain ⟨t,ht⟩: ∃y,y=(nth L i).typ:=⟨_,rfl⟩
   obtain ⟨p,hp⟩: ∃y,y=(nth L i).price:=⟨_,rfl⟩
   have hpl:=(HP.o.1 i (by rw[HN.o];exact hlt)).1
   have hwt:wt 1 (nth L i)=(t==4):=by unfold wt;rw[ht];simp
   have HW:Hid (t≠4->wt 1 (nth L i)=false):=fun h=>by rw[hwt];simpa using h
   unfold pl at hpl
   rw[←ht] at hpl
   simp only[Bool.or_eq_false_iff,beq_eq_false_iff_ne] at hpl
   rw[←hs] at x1
   rw[←ht] at x2
   rw[←hp] at x3
   rw[hwt] at x5
   have b2:((t:Int)==2)=false:=by simp;omega
   have b3:((t:Int)==3)=false:=by simp;omega
   have HSd:Hid ((nth L i).side=s/\(nth L i).price=p):=⟨hs.symm,hp.symm⟩
   have hi0:(0:Int)<=(i:Int):=by omega
   have hi1:(i:Int)<(n:Int):=by omega
   clear hs ht hp hwt hpl
   by_cases h4:t=4
   .subst h4
    rw[show ((4:Nat)==4)=true from rfl] at x5
    clear b2 b3
    go_wp2_with fail
    go_quiet (fail)
    have HBW:Hid (Below w.heap.size w (wr.drewN nq)):=HBr.o.trans ((below_drewN br _).mono HBr.o.size)
    change (wr.drewN nq).cell? _=_ at x1 x2 x3 x5
    generalize wr.drewN nq=W at *
    go_wp2_with fail
    go_roundw
    case rel=>exact⟨i+1,B,S,by omega,rfl,rfl,by go_num,HBW.o,HB.o,HS.o⟩
    case measure=>simp only[intOf];omega
   .have hw:=HW.o h4
    have HW2:=zl hw
    rw[show ((t:Nat)==4)=false by simpa using h4] at x5
    have b4:((t:Int)==4)=false:=by simp;omega
    clear hw h4
    go_wp2_with fail
    go_quiet (fail)
    have HBW:Hid (Below w.heap.size w (wr.drewN nq)):=HBr.o.trans ((below_drewN br _).mono HBr.o.size)
    change (wr.drewN nq).cell? _=_ at x1 x2 x3 x5
    generalize wr.drewN nq=W at *
    by_cases h1:s=1
    .subst h1
     by_cases hgt:B<p
     .have hgt':(B:Int)<(p:Int):=by omega
      have HB':Hid (p=0\/ ∃j,j<n/\wt 1 (nth L j)=false/\(nth L j).side=1/\(nth L j).price=p):= .inr ⟨i,hlt,HW2.o,HSd.o.1,HSd.o.2⟩
      go_wp2_with fail
      go_roundw
      case rel=>exact⟨i+1,p,S,by omega,rfl,rfl,by go_num,HBW.o,HB'.o,HS.o⟩
      case measure=>simp only[intOf];omega
     .have hgt': ¬(B:Int)<(p:Int):=by omega
      go_wp2_with fail
      go_roundw
      case rel=>exact⟨i+1,B,S,by omega,rfl,rfl,by go_num,HBW.o,HB.o,HS.o⟩
      case measure=>simp only[intOf];omega
    .have b1:((s:Int)==1)=false:=by simp;omega
     by_cases h2:s=2
     .subst h2
      by_cases hgt:p<S
      .have hgt':(p:Int)<(S:Int):=by omega
       have HS':Hid (p=1000001\/ ∃j,j<n/\wt 1 (nth L j)=false/\(nth L j).side=2/\(nth L j).price=p):= .inr ⟨i,hlt,HW2.o,HSd.o.1,HSd.o.2⟩
       go_wp2_with fail
       go_roundw
       case rel=>exact⟨i+1,B,p,by omega,rfl,rfl,by go_num,HBW.o,HB.o,HS'.o⟩
       case measure=>simp only[intOf];omega
      .have hgt': ¬(p:Int)<(S:Int):=by omega
       go_wp2_with fail
       go_roundw
       case rel=>exact⟨i+1,B,S,by omega,rfl,rfl,by go_num,HBW.o,HB.o,HS.o⟩
       case measure=>simp only[intOf];omega
     .have b22:((s:Int)==2)=false:=by simp;omega
      go_wp2_with fail
      go_roundw
      case rel=>exact⟨i+1,B,S,by omega,rfl,rfl,by go_num,HBW.o,HB.o,HS.o⟩
      case measure=>simp only[intOf];omega
  .have hin:i=n:=by omega
   subst hin
   have hBS:(B:Int)<(S:Int):=by
    rcases HB.o with h1|⟨j,j1,j2,j3,j4⟩
    .rcases HS.o with h2|⟨k,k1,k2,k3,k4⟩
     .omega
     .have:=(HP.o.1 k (by rw[HN.o];exact k1)).2.1
      omega
    .rcases HS.o with h2|⟨k,k1,k2,k3,k4⟩
     .have:=(HP.o.1 j (by rw[HN.o];exact j1)).2.2
      omega
     .have:=HP.o.2 j k (by rw[HN.o];exact j1) (by rw[HN.o];exact k1) j2 k2 j3 k3
      omega
   have hfin:=zl (HR.o wr HBr.o)
   go_wp2_with fail
   exact zam hfin.o (by simp)
theorem kPriced_any (al:Option Addr)(cl:Nat)(E:List (Nat->Int))(a:Option Addr)(c:Nat)(L:List Od)(w:World)(R:EW)(hE:ze1 w al E.length (evAt E))(hEn:E.length<=36)(hn:L.length<=1048576)(hO:OrdsAt w a 1 L)(h1:oneId L)(hpr: ∀i,i<L.length->(nth L i).price<=1000000)(hP:Pri L 0 E)
  (hR: ∀w',Below w.heap.size w w'->R (.returned (.bool true)) w'):Calls Tryz.prog 30 #[.slice al E.length cl,.slice a L.length c] w R:=by
 have HR:=zl hR
 have HE:=zl hE
 have HO:=zl hO
 have HP:=zl hP
 have HL:Hid (L.length<=1048576/\oneId L/\ ∀i,i<L.length->(nth L i).price<=1000000):=⟨hn,h1,hpr⟩
 obtain ⟨n,hnn⟩: ∃y,y=E.length:=⟨_,rfl⟩
 have HN:=zl (hnn.symm)
 obtain ⟨T,hTT⟩: ∃y,y=L.length:=⟨_,rfl⟩
 have HT:=zl (hTT.symm)
 have hT:T<=1048576:=by rw[hTT];exact hn
 rw[←hnn] at hEn
 rw[←hnn,←hTT]
 clear hR hE hO hP hn h1 hpr hnn hTT
 go_enter Tryz.func30,Tryz.ntmps30
 go_wp2_with fail
 go_loopw [5,6,7,8,9,10] (fun t5 t _ _ _ _ wr=> ∃i last:Nat,i<=n/\last<=1000000/\t5= .int .i64 last/\t= .int .i64 i/\Below w.heap.size w wr/\Pri L last (E.drop i)) (fun _ t _ _ _ _ _=>n-(intOf t).toNat)
 case atStart=>exact⟨0,0,Nat.zero_le _,Nat.zero_le _,rfl,rfl,br,HP.o⟩
 case round=>
  obtain ⟨i,last,hi,hla,rfl,rfl,hbr,hpi⟩:=hrel
  have HBr:=zl hbr
  clear hbr
  by_cases hlt:i<n
  .obtain ⟨g,o,rfl,hc⟩:=HE.o i (by rw[HN.o];exact hlt)
   obtain ⟨e,he⟩: ∃y,y=evAt E i:=⟨_,rfl⟩
   rw[←he] at hc
   have hd:E.drop i=e::E.drop (i+1):=by
    have hiE:i<E.length:=by rw[HN.o];exact hlt
    rw[List.drop_eq_getElem_cons hiE,he]
    simp[evAt,List.getD,hiE]
   rw[hd] at hpi
   have d0:=(HBr.o.cell (zab (hc 0 (by decide)))).trans (hc 0 (by decide))
   have d4:=(HBr.o.cell (zab (hc 4 (by decide)))).trans (hc 4 (by decide))
   have d5:=(HBr.o.cell (zab (hc 5 (by decide)))).trans (hc 5 (by decide))
   have d7:=(HBr.o.cell (zab (hc 7 (by decide)))).trans (hc 7 (by decide))
   rw[Nat.add_zero] at d0
   have hi0:(0:Int)<=(i:Int):=by omega
   have hi1:(i:Int)<(n:Int):=by omega
   clear hc hd he
   rcases hpi with ⟨h0,hp2⟩|⟨h0,k,hk,hwk,hids,h7,hlast,hp2⟩
   .have HP2:=zl hp2
    have b3:(e 0 !=3)=true:=by simpa using h0
    clear hp2
    go_wp2_with fail
    go_roundw
    case rel=>exact⟨i+1,last,by omega,hla,rfl,by go_num,HBr.o,HP2.o⟩
    case measure=>simp only[intOf];omega
   .rw[h0] at d0
    have HP2:=zl hp2
    have HID:=zl hids
    have HK:Hid (k<L.length/\ ∀j,j<k->(nth L j).id≠(nth L k).id):=⟨hk,fun j hj e=>by have:=HL.o.2.1 j k (by omega) hk e;omega⟩
    obtain ⟨g2,o2,rfl,y0,y1,y2,y3,y4,y5⟩:=(HO.o.ext HBr.o) k hk
    rw[hwk] at y5
    have hkt:k<T:=by rw[←HT.o];exact hk
    have hk0:(0:Int)<=(k:Int):=by omega
    have hk1:(k:Int)<(T:Int):=by omega
    obtain ⟨q,hq⟩: ∃y,y=(nth L k).id:=⟨_,rfl⟩
    obtain ⟨s,hs⟩: ∃y,y=(nth L k).side:=⟨_,rfl⟩
    obtain ⟨ty,hty⟩: ∃y,y=(nth L k).typ:=⟨_,rfl⟩
    obtain ⟨p,hp⟩: ∃y,y=(nth L k).price:=⟨_,rfl⟩
    obtain ⟨r,hr⟩: ∃y,y=(nth L k).rest:=⟨_,rfl⟩
    have hp6:p<=1000000:=by rw[hp];exact HL.o.2.2 k hk
    rw[←hp] at HP2 h7 hlast
    rw[←hs] at hlast
    rw[←h7] at d7
    rw[←hq] at y0
    rw[←hs] at y1
    rw[←hty] at y2
    rw[←hp] at y3
    rw[←hr] at y4
    have d7':=zaa (zac wr (.cells #[.int .i64 (q:Nat),.int .i64 (s:Nat),.int .i64 (ty:Nat),.int .i64 (p:Nat),.int .i64 (r:Nat),.bool false] 89)) d7
    have HBA:Hid (∀o,Below w.heap.size w (wr.alloc o)):=fun o=>HBr.o.alloc HBr.o.size _
    have HOr:=zl (HO.o.ext HBr.o)
    clear hq hs hty hp hr h7 hp2 hids hk hwk h0
    rcases HID.o with ⟨q1,q2⟩|⟨q1,q2⟩
    .go_wp2_with fail
     refine kFind_at _ c 1 T L (e 4) k wr _ HT.o HL.o.1 HOr.o (.inl ⟨k,rfl,HK.o.1,q1,fun j hj=>by have:=HK.o.2 j hj;rw[←q1];omega⟩) ?_
     clear d4
     go_wp2_with fail
     refine kFind_at _ c 1 T L (e 5) (-1) wr _ HT.o HL.o.1 HOr.o (.inr ⟨rfl,q2⟩) ?_
     clear d5 q1 q2 HOr
     go_wp2_with fail
     have g1:(wr.alloc (.cells #[.int .i64 (q:Nat),.int .i64 (s:Nat),.int .i64 (ty:Nat),.int .i64 (p:Nat),.int .i64 (r:Nat),.bool false] 89)).cell? ⟨wr.heap.size,1,none⟩=some (.int .i64 (s:Nat)):=cell_of_row _ _ 1 _ _ (0,0) (heap_alloc_new wr _)
     have g3:(wr.alloc (.cells #[.int .i64 (q:Nat),.int .i64 (s:Nat),.int .i64 (ty:Nat),.int .i64 (p:Nat),.int .i64 (r:Nat),.bool false] 89)).cell? ⟨wr.heap.size,3,none⟩=some (.int .i64 (p:Nat)):=cell_of_row _ _ 3 _ _ (0,0) (heap_alloc_new wr _)
     have g5:(wr.alloc (.cells #[.int .i64 (q:Nat),.int .i64 (s:Nat),.int .i64 (ty:Nat),.int .i64 (p:Nat),.int .i64 (r:Nat),.bool false] 89)).cell? ⟨wr.heap.size,5,none⟩=some (.bool false):=cell_of_row _ _ 5 _ _ (0,0) (heap_alloc_new wr _)
     have HBW:Hid (Below w.heap.size w (wr.alloc (.cells #[.int .i64 (q:Nat),.int .i64 (s:Nat),.int .i64 (ty:Nat),.int .i64 (p:Nat),.int .i64 (r:Nat),.bool false] 89))):=HBA.o _
     generalize wr.alloc (.cells #[.int .i64 (q:Nat),.int .i64 (s:Nat),.int .i64 (ty:Nat),.int .i64 (p:Nat),.int .i64 (r:Nat),.bool false] 89)=W at *
     clear HBA y0 y1 y2 y3 y4 y5 d0 d7
     have bpp:((p:Int) !=(p:Int))=false:=by simp
     go_quiet (fail)
     have HBV:Hid (Below w.heap.size w (W.drewN nq)):=HBW.o.trans ((below_drewN br _).mono HBW.o.size)
     change (W.drewN nq).cell? _=_ at g1 g3
     clear g5 d7'
     generalize W.drewN nq=V at *
     by_cases hl0:last=0
     .subst hl0
      go_wp2_with fail
      go_roundw
      case rel=>exact⟨i+1,p,by omega,hp6,rfl,by go_num,HBV.o,HP2.o⟩
      case measure=>simp only[intOf];omega
     .obtain ⟨l1,l2⟩:=hlast.resolve_left hl0
      have hl1:(0:Int)<(last:Int):=by omega
      by_cases s2:s=2
      .subst s2
       have hg: ¬(p:Int)<(last:Int):=by have:=l1 rfl;omega
       clear l1 l2 hlast
       go_wp2_with fail
       go_roundw
       case rel=>exact⟨i+1,p,by omega,hp6,rfl,by go_num,HBV.o,HP2.o⟩
       case measure=>simp only[intOf];omega
      .have bs2:((s:Int)==2)=false:=by simp;omega
       by_cases s1:s=1
       .subst s1
        have hg: ¬(last:Int)<(p:Int):=by have:=l2 rfl;omega
        clear l1 l2 hlast
        go_wp2_with fail
        go_roundw
        case rel=>exact⟨i+1,p,by omega,hp6,rfl,by go_num,HBV.o,HP2.o⟩
        case measure=>simp only[intOf];omega
       .have bs1:((s:Int)==1)=false:=by simp;omega
        clear l1 l2 hlast
        go_wp2_with fail
        go_roundw
        case rel=>exact⟨i+1,p,by omega,hp6,rfl,by go_num,HBV.o,HP2.o⟩
        case measure=>simp only[intOf];omega
    .go_wp2_with fail
     refine kFind_at _ c 1 T L (e 4) (-1) wr _ HT.o HL.o.1 HOr.o (.inr ⟨rfl,q2⟩) ?_
     clear d4
     go_wp2_with fail
     refine kFind_at _ c 1 T L (e 5) k wr _ HT.o HL.o.1 HOr.o (.inl ⟨k,rfl,HK.o.1,q1,fun j hj=>by have:=HK.o.2 j hj;rw[←q1];omega⟩) ?_
     clear d5 q1 q2 HOr
     go_wp2_with fail
     have g1:(wr.alloc (.cells #[.int .i64 (q:Nat),.int .i64 (s:Nat),.int .i64 (ty:Nat),.int .i64 (p:Nat),.int .i64 (r:Nat),.bool false] 89)).cell? ⟨wr.heap.size,1,none⟩=some (.int .i64 (s:Nat)):=cell_of_row _ _ 1 _ _ (0,0) (heap_alloc_new wr _)
     have g3:(wr.alloc (.cells #[.int .i64 (q:Nat),.int .i64 (s:Nat),.int .i64 (ty:Nat),.int .i64 (p:Nat),.int .i64 (r:Nat),.bool false] 89)).cell? ⟨wr.heap.size,3,none⟩=some (.int .i64 (p:Nat)):=cell_of_row _ _ 3 _ _ (0,0) (heap_alloc_new wr _)
     have g5:(wr.alloc (.cells #[.int .i64 (q:Nat),.int .i64 (s:Nat),.int .i64 (ty:Nat),.int .i64 (p:Nat),.int .i64 (r:Nat),.bool false] 89)).cell? ⟨wr.heap.size,5,none⟩=some (.bool false):=cell_of_row _ _ 5 _ _ (0,0) (heap_alloc_new wr _)
     have HBW:Hid (Below w.heap.size w (wr.alloc (.cells #[.int .i64 (q:Nat),.int .i64 (s:Nat),.int .i64 (ty:Nat),.int .i64 (p:Nat),.int .i64 (r:Nat),.bool false] 89))):=HBA.o _
     generalize wr.alloc (.cells #[.int .i64 (q:Nat),.int .i64 (s:Nat),.int .i64 (ty:Nat),.int .i64 (p:Nat),.int .i64 (r:Nat),.bool false] 89)=W at *
     clear HBA y0 y1 y2 y3 y4 y5 d0 d7
     have bpp:((p:Int) !=(p:Int))=false:=by simp
     go_quiet (fail)
     have HBV:Hid (Below w.heap.size w (W.drewN nq)):=HBW.o.trans ((below_drewN br _).mono HBW.o.size)
     change (W.drewN nq).cell? _=_ at g1 g3
     clear g5 d7'
     generalize W.drewN nq=V at *
     by_cases hl0:last=0
     .subst hl0
      go_wp2_with fail
      go_roundw
      case rel=>exact⟨i+1,p,by omega,hp6,rfl,by go_num,HBV.o,HP2.o⟩
      case measure=>simp only[intOf];omega
     .obtain ⟨l1,l2⟩:=hlast.resolve_left hl0
      have hl1:(0:Int)<(last:Int):=by omega
      by_cases s2:s=2
      .subst s2
       have hg: ¬(p:Int)<(last:Int):=by have:=l1 rfl;omega
       clear l1 l2 hlast
       go_wp2_with fail
       go_roundw
       case rel=>exact⟨i+1,p,by omega,hp6,rfl,by go_num,HBV.o,HP2.o⟩
       case measure=>simp only[intOf];omega
      .have bs2:((s:Int)==2)=false:=by simp;omega
       by_cases s1:s=1
       .subst s1
        have hg: ¬(last:Int)<(p:Int):=by have:=l2 rfl;omega
        clear l1 l2 hlast
        go_wp2_with fail
        go_roundw
        case rel=>exact⟨i+1,p,by omega,hp6,rfl,by go_num,HBV.o,HP2.o⟩
        case measure=>simp only[intOf];omega
       .have bs1:((s:Int)==1)=false:=by simp;omega
        clear l1 l2 hlast
        go_wp2_with fail
        go_roundw
        case rel=>exact⟨i+1,p,by omega,hp6,rfl,by go_num,HBV.o,HP2.o⟩
        case measure=>simp only[intOf];omega
  .have hin:i=n:=by omega
   subst hin
   have hfin:=zl (HR.o wr HBr.o)
   go_wp2_with fail
   exact hfin.o
end
section
open Go.RowKit Go.Shelf
theorem nth_get {l:List Od}{i:Nat}(h:i<l.length):nth l i=l[i]:=by unfold nth;simp[List.getD,h]
theorem shown_one {l:List Od}(h:oneId l):oneId (zfg l):=by
 have hp:l.Pairwise fun a b=>a.id≠b.id:=List.pairwise_iff_getElem.2 fun i j hi hj hij e=>by
  have:=h i j hi hj (by rw[nth_get hi,nth_get hj];exact e)
  omega
 have hq:(zfg l).Pairwise fun a b=>a.id≠b.id:=hp.sublist List.filter_sublist
 intro i j hi hj e
 rw[nth_get hi,nth_get hj] at e
 rcases Nat.lt_trichotomy i j with h1|h1|h1
 .exact absurd e (List.pairwise_iff_getElem.1 hq i j hi hj h1)
 .exact h1
 .exact absurd e.symm (List.pairwise_iff_getElem.1 hq j i hj hi h1)
theorem shown_apart {m:Mk}(h:Iv m)(ha:Ap m)(hp:m.phase=1):(∀i,i<(zfg m.all).length->pl (nth (zfg m.all) i)=false/\1<=(nth (zfg m.all) i).price/\(nth (zfg m.all) i).price<=1000000)/\
  ∀i j,i<(zfg m.all).length->j<(zfg m.all).length->wt 1 (nth (zfg m.all) i)=false->wt 1 (nth (zfg m.all) j)=false->(nth (zfg m.all) i).side=1->(nth (zfg m.all) j).side=2->(nth (zfg m.all) i).price<(nth (zfg m.all) j).price:=by
 refine⟨fun i hi=>?_,fun i j hi hj wi wj si sj=>?_⟩
 .obtain ⟨k,hk,hr,e⟩:=shown_from hi
  rw[e]
  have hpl:=h.tr hp k hk hr
  exact⟨hpl,(h.ok k hk).priced hpl,(h.ok k hk).price⟩
 .obtain ⟨x,hx,hrx,ex⟩:=shown_from hi
  obtain ⟨y,hy,hry,ey⟩:=shown_from hj
  rw[ex] at wi si ⊢
  rw[ey] at wj sj ⊢
  exact ha hp x y hx hy (by unfold bk;simp[hrx,wi]) (by unfold bk;simp[hry,wj]) si sj
theorem Apart_any (x:Nat->Int)(sa:Option Addr)(n cs:Nat)(A:Nat->Option Addr)(N C:Nat->Nat)(Y:Nat->Nat->Nat)(w:World)(R:EW)(hn:n<=1048575)(hL:zcq w)(hC:CmdsAt w sa n A N C Y)
  (hR: ∀w',Below w.heap.size w w'->R (.returned (.bool true)) w'):Calls Tryz.prog 9 #[cfx x,.slice sa n cs] w R:=by
 have HR:=zl hR
 have HL:=zl hL
 have HC:=zl hC
 clear hR hL hC
 unfold cfx
 go_enter Tryz.func9,Tryz.ntmps9
 go_wp2_with fail
 obtain ⟨w1,hw1⟩: ∃y,y=w.alloc (.cells #[.int .i64 (x 0),.int .i64 (x 1),.int .i64 (x 2),.int .i64 (x 3),.int .i64 (x 4),.int .i64 (x 5)] 46):=⟨_,rfl⟩
 have HB1:Hid (Below w.heap.size w w1):=by rw[hw1];exact br.alloc nr _
 rw[←hw1]
 clear hw1
 refine kOpened_any x w1 _ (zcq.below HL.o HB1.o nr) ?_ ?_
 .intro _ w2 hb2
  have hfin:Hid (R (.returned (.bool true)) w2):=HR.o w2 (HB1.o.trans (hb2.mono HB1.o.size))
  clear hb2
  go_wp2_with fail
  exact hfin.o
 .intro hok P b w2 hb2 ho2 hp2
  have HK2:Hid (Km w w2 P b (cfOf x) (newM (cfOf x)) 0):=Km.new hok (HB1.o.trans (hb2.mono HB1.o.size)) (fun g hg=>llt HB1.o.size (ho2 g hg)) hp2
  have HI2:Hid (Iv (newM (cfOf x))/\Ap (newM (cfOf x))):=⟨Iv.new (by
   obtain ⟨q1,q2,-⟩:=hok
   show 1<=(x 0).toNat/\(x 0).toNat<=1000000
   omega),Ap.new _⟩
  generalize cfOf x=c at *
  clear hok hb2 ho2 hp2
  go_wp2_with fail
  go_loopw [6,7,8,9,10,11,12] (fun _ t _ _ _ _ _ wr=> ∃(k:Nat) (b:Bk) (m:Mk),k<=n/\t= .int .i64 k/\Km w wr P b c m k/\Iv m/\Ap m) (fun _ t _ _ _ _ _ _=>n-(intOf t).toNat)
  case atStart=>exact⟨0,b,_,Nat.zero_le _,rfl,HK2.o,HI2.o.1,HI2.o.2⟩
  case round=>
   clear HK2 HI2 b
   obtain ⟨k,b,m,hk,rfl,hK,hI⟩:=hrel
   have HK:=zl hK
   have HI:=zl hI
   clear hK hI
   by_cases hlt:k<n
   .go_wp2_with fail
    refine pLook_any P b c {m with seq:=m.seq} m.phase wr _ HK.o.ps.pm ?_
    intro w3 hb3
    rw[show lookv {m with seq:=m.seq}= .agg #[.int .i64 m.phase,.int .i64 m.time,.int .i64 m.ref,.int .i64 m.seq] from rfl]
    obtain ⟨w4,hw4⟩: ∃y,y=w3.alloc (.cells #[.int .i64 m.phase,.int .i64 m.time,.int .i64 m.ref,.int .i64 m.seq] 67):=⟨_,rfl⟩
    obtain ⟨G1,hG1⟩: ∃y,y=w3.heap.size:=⟨_,rfl⟩
    have hb4:Below wr.heap.size wr w4:=by rw[hw4];exact hb3.alloc hb3.size _
    have HK4:=zl (HK.o.ext hb4)
    have HG1:Hid (w4.heap[G1]?=some (.cells #[.int .i64 m.phase,.int .i64 m.time,.int .i64 m.ref,.int .i64 m.seq] 67 (0,0))/\ ∀g,Own P b g->g<G1):=⟨by rw[hw4,hG1];exact heap_alloc_new w3 _,fun g hg=>lll (HK.o.ps.lt hg) (by rw[hG1];exact hb3.size)⟩
    clear hb3 hb4
    go_wp2_with fail
    rw[←hw4,←hG1]
    clear hw4 hG1
    refine pOrders_any P b c m _ w4 _ HK4.o.ps ?_
    intro v5 w5 hb5 hv5
    obtain ⟨a5,c5,e5⟩:=zar hv5
    subst e5
    obtain ⟨L1,hL1⟩: ∃y,y=zfg m.all:=⟨_,rfl⟩
    have HV5:Hid (w5.ownsRow w4.heap.size 89 6 (.slice a5 L1.length c5) L1.length (shcs m.phase m.all)):=by rw[hL1];exact hv5
    have HK5:=zl (HK4.o.ext hb5)
    have HG5:Hid (w5.heap[G1]?=some (.cells #[.int .i64 m.phase,.int .i64 m.time,.int .i64 m.ref,.int .i64 m.seq] 67 (0,0))/\ ∀g,Own P b g->g<G1):=⟨zau hb5 HG1.o.1,HG1.o.2⟩
    have HLo:Hid (∀g,Own P b g->g<w4.heap.size):=fun g hg=>HK4.o.ps.lt hg
    obtain ⟨g,o,rfl,hc⟩:=HC.o.cell k hlt
    have hc5:=(HK5.o.bel.cell (zab hc)).trans hc
    rw[←hL1]
    have HL1:=zl hL1
    have hk0:(0:Int)<=(k:Int):=by omega
    have hk1:(k:Int)<(n:Int):=by omega
    clear hb5 hv5 hc hL1 HG1 HK4
    go_wp2_with fail
    have hlen:=HC.o.len k hlt
    have hmk:=HK5.o.len
    have HOK:Hid ((∀e∈(zaz c m (Y k) (N k)).out,okE e)/\(zaz c m (Y k) (N k)).out.length<=36):=HK5.o.ok (HC.o.byt k) (by omega)
    refine kSent_any P b c m (A k) (N k) (C k) (Y k) w w5 _ HK5.o.ps HL.o HK5.o.bel HK5.o.low hlen.1 hlen.2 ((HC.o.bs k hlt).ext HK5.o.bel) (HC.o.byt k) (fun h0 g o e=>lll (HC.o.low k hlt h0 g o e) HK5.o.bel.size) (by omega) HK5.o.ct HK5.o.lv HK5.o.co HOK.o.1 HOK.o.2 ?_
    intro b6 v6 w6 hp6 hm6 hv6 _
    have HK6:Hid (Km w w6 P b6 c (zaz c m (Y k) (N k)) (k+1)):=HK5.o.sent (HC.o.byt k) (by omega) hp6 hm6
    have HAp:Hid (Iv (zaz c m (Y k) (N k))/\Ap (zaz c m (Y k) (N k))/\(m.phase=1->(zaz c m (Y k) (N k)).phase=1->Pri (zfg m.all) 0 (zaz c m (Y k) (N k)).out)):=⟨(send_au c m (Y k) (N k) HI.o.1).2,send_ap c m (Y k) (N k) HI.o.1 HI.o.2⟩
    have HO6:Hid (OrdsAt w6 a5 m.phase L1):=by
     have:=zb6 HV5.o (fun q hq=>hm6.tch.blk q (HV5.o.lt q hq).2 (fun e=>absurd (HLo.o q e) (by have:=(HV5.o.lt q hq).1;omega)))
     rw[HL1.o] at this ⊢
     exact ordsAt_own this
    have HG6:Hid (w6.heap[G1]?=some (.cells #[.int .i64 m.phase,.int .i64 m.time,.int .i64 m.ref,.int .i64 m.seq] 67 (0,0))):=(hm6.tch.blk G1 (zak HG5.o.1) (fun e=>absurd (HG5.o.2 G1 e) (by omega))).trans HG5.o.1
    generalize zaz c m (Y k) (N k)=M at *
    obtain ⟨E,hE⟩: ∃E,E=M.out:=⟨_,rfl⟩
    unfold Evs at hv6
    rw[←hE] at hv6 HAp HOK
    obtain ⟨a6,c6,e6⟩:=zar hv6
    subst e6
    have HV6:=zl hv6
    clear hp6 hm6 hv6 hE HV5 HLo HG5 HK5 hc5
    go_wp2_with fail
    refine pLook_any P b6 c {M with seq:=M.seq} M.phase w6 _ HK6.o.ps.pm ?_
    intro w7 hb7
    rw[show lookv {M with seq:=M.seq}= .agg #[.int .i64 M.phase,.int .i64 M.time,.int .i64 M.ref,.int .i64 M.seq] from rfl]
    obtain ⟨w8,hw8⟩: ∃y,y=w7.alloc (.cells #[.int .i64 M.phase,.int .i64 M.time,.int .i64 M.ref,.int .i64 M.seq] 67):=⟨_,rfl⟩
    have hb8:Below w6.heap.size w6 w8:=by rw[hw8];exact hb7.alloc hb7.size _
    have HK8:=zl (HK6.o.ext hb8)
    have HG8:Hid (w8.heap[G1]?=some (.cells #[.int .i64 m.phase,.int .i64 m.time,.int .i64 m.ref,.int .i64 m.seq] 67 (0,0))):=zau hb8 HG6.o
    have HO8:=zl (HO6.o.ext hb8)
    have HV8:Hid (w8.ownsRow w5.heap.size 42 10 (.slice a6 E.length c6) E.length (evcs E)):=zbe HV6.o hb8
    clear hb7 hb8 HV6 HO6 HG6 HK6
    have HW8:=zl hw8
    clear hw8
    by_cases hM:M.phase=1
    .have hq:((M.phase:Int) !=1)=false:=by rw[hM];rfl
     have HM:=zl hM
     clear hM
     go_wp2_with fail
     rw[←HW8.o]
     clear HW8
     refine pOrders_any P b6 c M _ w8 _ HK8.o.ps ?_
     intro v9 w9 hb9 hv9
     obtain ⟨a9,c9,e9⟩:=zar hv9
     subst e9
     have HO9:Hid (OrdsAt w9 a9 1 (zfg M.all)):=by rw[←HM.o];exact ordsAt_own hv9
     have hn9:(zfg M.all).length<=1048576:=llt (List.length_filter_le _ _) (by have:=HK8.o.len;omega)
     have hnL:L1.length<=1048576:=by rw[HL1.o];exact llt (List.length_filter_le _ _) (by omega)
     have HB9:=zl hb9
     clear hb9 hv9
     go_wp2_with fail
     refine kApart_any a9 c9 (zfg M.all) w9 _ hn9 HO9.o (shown_apart HAp.o.1 HAp.o.2.1 HM.o).1 (shown_apart HAp.o.1 HAp.o.2.1 HM.o).2 ?_
     intro w10 hb10
     have HB10:Hid (Below w8.heap.size w8 w10):=HB9.o.trans (hb10.mono HB9.o.size)
     have HK10:=zl (HK8.o.ext HB10.o)
     have p0:w10.cell? ⟨G1,0,none⟩=some (.int .i64 m.phase):=cell_of_row w10 G1 0 _ _ (0,0) (zau HB10.o HG8.o)
     clear hb10 hq
     by_cases hm1:m.phase=1
     .have HM1:=zl hm1
      rw[hm1] at p0
      clear hm1
      go_wp2_with fail
      refine kPriced_any a6 c6 E a5 c5 L1 w10 _ (evsAt_own (zbe HV8.o HB10.o)) HOK.o.2 hnL (by have:=HO8.o.ext HB10.o;rw[HM1.o] at this;exact this) (by rw[HL1.o];exact shown_one HI.o.1.one) (fun i hi=>?_) (by rw[HL1.o];exact HAp.o.2.2 HM1.o HM.o) ?_
      .rw[HL1.o] at hi ⊢
       obtain ⟨j,hj,-,e⟩:=shown_from hi
       rw[e]
       exact(HI.o.1.ok j hj).price
      .intro w11 hb11
       have HK11:=zl (HK10.o.ext hb11)
       clear hb11 p0
       go_wp2_with fail
       go_roundw
       case rel=>exact⟨k+1,b6,M,by omega,by go_num,HK11.o,HAp.o.1,HAp.o.2.1⟩
       case measure=>simp only[intOf];omega
     .have hq:((m.phase:Int)==1)=false:=by simp;omega
      go_wp2_with fail
      go_roundw
      case rel=>exact⟨k+1,b6,M,by omega,by go_num,HK10.o,HAp.o.1,HAp.o.2.1⟩
      case measure=>simp only[intOf];omega
    .have hq:((M.phase:Int) !=1)=true:=by simp;omega
     go_wp2_with fail
     rw[←HW8.o]
     go_roundw
     case rel=>exact⟨k+1,b6,M,by omega,by go_num,HK8.o,HAp.o.1,HAp.o.2.1⟩
     case measure=>simp only[intOf];omega
   .have hin:k=n:=by omega
    subst hin
    have hfin:=zl (HR.o wr HK.o.bel)
    go_wp2_with fail
    exact hfin.o
end
