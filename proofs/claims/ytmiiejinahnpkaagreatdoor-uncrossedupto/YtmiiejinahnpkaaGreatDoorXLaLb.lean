import Derived.Test.YtmiiejinahnpkaaGreatDoorXAjEn
set_option maxRecDepth 8000
set_option maxHeartbeats 1000000
namespace Go.Proofs.YtmiiejinahnpkaaGreatDoor
section
open Go.RowKit Go.Shelf
theorem pisFromI (m:Nat)(x:Int)(w:World)(R:EW)(hR:R (.returned (.bool (decide (1<=x)&&decide (x<=(m:Int))))) w):Calls Tryz.prog 99 #[.int .i64 (m:Nat),.int .i64 x] w R:=by
 by_cases h1:1<=x
 .by_cases h2:x<=(m:Int)
  .have HR:Hid (R (.returned (.bool true)) w):=zam hR (by simp[h1,h2])
   clear hR
   go_enter Tryz.func99,Tryz.ntmps99
   go_wp2_with fail
   exact HR.o
  .have HR:Hid (R (.returned (.bool false)) w):=zam hR (by simp[h2])
   clear hR
   go_enter Tryz.func99,Tryz.ntmps99
   go_wp2_with fail
   exact HR.o
 .have HR:Hid (R (.returned (.bool false)) w):=zam hR (by simp[h1])
  clear hR
  go_enter Tryz.func99,Tryz.ntmps99
  go_wp2_with fail
  exact HR.o
theorem cells6 {W:World}{B:Nat}{t:TypeId}{x0 x1 x2 x3 x4 x5:Value}(h:W.heap[B]?=some (.cells #[x0,x1,x2,x3,x4,x5] t (0,0))):W.cell? ⟨B,0,none⟩=some x0/\W.cell? ⟨B,1,none⟩=some x1/\W.cell? ⟨B,2,none⟩=some x2/\W.cell? ⟨B,3,none⟩=some x3/\W.cell? ⟨B,4,none⟩=some x4/\W.cell? ⟨B,5,none⟩=some x5:=
 ⟨by rw[cell_of_row _ _ 0 _ _ (0,0) h];rfl,by rw[cell_of_row _ _ 1 _ _ (0,0) h];rfl,by rw[cell_of_row _ _ 2 _ _ (0,0) h];rfl,by rw[cell_of_row _ _ 3 _ _ (0,0) h];rfl,by rw[cell_of_row _ _ 4 _ _ (0,0) h];rfl,by rw[cell_of_row _ _ 5 _ _ (0,0) h];rfl⟩
theorem pisConfig_any (x:Nat->Int)(w:World)(R:EW)(hR1: ¬cfOk x-> ∀w',Below w.heap.size w w'->R (.returned (.bool false)) w')(hR2:cfOk x-> ∀w',Below w.heap.size w w'->R (.returned (.bool true)) w'):
  Calls Tryz.prog 67 #[cfx x] w R:=by
 have HR1:=zl hR1
 have HR2:=zl hR2
 clear hR1 hR2
 unfold cfx
 go_enter Tryz.func67,Tryz.ntmps67
 have hbA:=zac w (.cells #[.int .i64 (x 0),.int .i64 (x 1),.int .i64 (x 2),.int .i64 (x 3),.int .i64 (x 4),.int .i64 (x 5)] 46)
 obtain ⟨c0,c1,c2,c3,c4,c5⟩:=cells6 (World.alloc_heap_new w (.cells #[.int .i64 (x 0),.int .i64 (x 1),.int .i64 (x 2),.int .i64 (x 3),.int .i64 (x 4),.int .i64 (x 5)] 46))
 go_wp2_with fail
 generalize w.alloc (.cells #[.int .i64 (x 0),.int .i64 (x 1),.int .i64 (x 2),.int .i64 (x 3),.int .i64 (x 4),.int .i64 (x 5)] 46)=A at *
 refine pisFromI 1000000 (x 0) _ _ ?_
 by_cases h0:1<=x 0/\x 0<=1000000
 .rw[show (decide (1<=x 0)&&decide (x 0<=((1000000:Nat):Int)))=true by simp;omega]
  by_cases h1:0<x 1
  .by_cases h2:x 1<x 2
   .by_cases h3:x 2<x 3
    .by_cases h4:x 3<=1000000
     .go_wp2_with fail
      refine pisFromI 24 (x 4) _ _ ?_
      by_cases h5:1<=x 4/\x 4<=24
      .rw[show (decide (1<=x 4)&&decide (x 4<=((24:Nat):Int)))=true by simp;omega]
       go_wp2_with fail
       refine pisFromI 1000000000 (x 5) _ _ ?_
       by_cases h6:1<=x 5/\x 5<=1000000000
       .rw[show (decide (1<=x 5)&&decide (x 5<=((1000000000:Nat):Int)))=true by simp;omega]
        have hfin:Hid (R (.returned (.bool true)) A):=HR2.o (by unfold cfOk;omega) _ hbA
        go_wp2_with fail
        exact hfin.o
       .rw[show (decide (1<=x 5)&&decide (x 5<=((1000000000:Nat):Int)))=false by simp;omega]
        have hfin:Hid (R (.returned (.bool false)) A):=HR1.o (by unfold cfOk;omega) _ hbA
        go_wp2_with fail
        exact hfin.o
      .rw[show (decide (1<=x 4)&&decide (x 4<=((24:Nat):Int)))=false by simp;omega]
       have hfin:Hid (R (.returned (.bool false)) A):=HR1.o (by unfold cfOk;omega) _ hbA
       go_wp2_with fail
       exact hfin.o
     .have hfin:Hid (R (.returned (.bool false)) A):=HR1.o (by unfold cfOk;omega) _ hbA
      go_wp2_with fail
      exact hfin.o
    .have hfin:Hid (R (.returned (.bool false)) A):=HR1.o (by unfold cfOk;omega) _ hbA
     go_wp2_with fail
     exact hfin.o
   .have hfin:Hid (R (.returned (.bool false)) A):=HR1.o (by unfold cfOk;omega) _ hbA
    go_wp2_with fail
    exact hfin.o
  .have hfin:Hid (R (.returned (.bool false)) A):=HR1.o (by unfold cfOk;omega) _ hbA
   go_wp2_with fail
   exact hfin.o
 .rw[show (decide (1<=x 0)&&decide (x 0<=((1000000:Nat):Int)))=false by simp;omega]
  have hfin:Hid (R (.returned (.bool false)) A):=HR1.o (by unfold cfOk;omega) _ hbA
  go_wp2_with fail
  exact hfin.o
theorem pNew_any (x:Nat->Int)(w:World)(R:EW)
  (hR1: ¬cfOk x-> ∀w',Below w.heap.size w w'->R (.returned (.tuple #[.pointer none,.int .i64 1])) w')
  (hR2:cfOk x-> ∀P b w',Below w.heap.size w w'->(∀g,Own P b g->w.heap.size<=g)->PS w' P b (cfOf x) (newM (cfOf x)) 0->R (.returned (.tuple #[.pointer (some ⟨P,0,none⟩),.int .i64 0])) w'):
  Calls Tryz.prog 34 #[cfx x] w R:=by
 have HR1:=zl hR1
 have HR2:=zl hR2
 clear hR1 hR2
 have hbA:=zac w (.cells #[.int .i64 (x 0),.int .i64 (x 1),.int .i64 (x 2),.int .i64 (x 3),.int .i64 (x 4),.int .i64 (x 5)] 46)
 have hblk:=World.alloc_heap_new w (.cells #[.int .i64 (x 0),.int .i64 (x 1),.int .i64 (x 2),.int .i64 (x 3),.int .i64 (x 4),.int .i64 (x 5)] 46)
 obtain ⟨c0,c1,c2,c3,c4,c5⟩:=cells6 hblk
 unfold cfx
 go_enter Tryz.func34,Tryz.ntmps34
 go_wp2_with fail
 generalize w.alloc (.cells #[.int .i64 (x 0),.int .i64 (x 1),.int .i64 (x 2),.int .i64 (x 3),.int .i64 (x 4),.int .i64 (x 5)] 46)=A at *
 refine pisConfig_any x _ _ ?_ ?_
 .intro hno w2 hb2
  have hfin:Hid (R (.returned (.tuple #[.pointer none,.int .i64 1])) w2):=HR1.o hno w2 (zad hbA hb2)
  go_wp2_with fail
  exact hfin.o
 .intro hok w2 hb2
  have hb2':Below w.heap.size w w2:=zad hbA hb2
  obtain ⟨d0,d1,d2,d3,d4,d5⟩:=cells6 (zau hb2 hblk)
  have hb3:=zac w2 (.cells #[.int .i64 0,.int .i64 0,.int .i64 (x 0),.int .i64 0] 67)
  obtain ⟨l0,l1,l2,l3,_⟩:=zjc (World.alloc_heap_new w2 (.cells #[.int .i64 0,.int .i64 0,.int .i64 (x 0),.int .i64 0] 67))
  have hbL:Below w.heap.size w (w2.alloc (.cells #[.int .i64 0,.int .i64 0,.int .i64 (x 0),.int .i64 0] 67)):=zad hb2' hb3
  have k0:=zaa hb3 d0
  have k1:=zaa hb3 d1
  have k2:=zaa hb3 d2
  have k3:=zaa hb3 d3
  have k4:=zaa hb3 d4
  have k5:=zaa hb3 d5
  have hs2:=hb2'.size
  go_wp2_with fail
  clear hb3 d0 d1 d2 d3 d4 d5 c0 c1 c2 c3 c4 c5 hbA hb2
  generalize w2.alloc (.cells #[.int .i64 0,.int .i64 0,.int .i64 (x 0),.int .i64 0] 67)=V at *
  generalize w2.heap.size=n2 at *
  go_region_held3 (fun w'=>(w'.cell? ⟨w.heap.size,0,none⟩=some (.int .i64 (x 0))/\w'.cell? ⟨w.heap.size,1,none⟩=some (.int .i64 (x 1))/\w'.cell? ⟨w.heap.size,2,none⟩=some (.int .i64 (x 2))/\w'.cell? ⟨w.heap.size,3,none⟩=some (.int .i64 (x 3))/\w'.cell? ⟨w.heap.size,4,none⟩=some (.int .i64 (x 4))/\w'.cell? ⟨w.heap.size,5,none⟩=some (.int .i64 (x 5))/\w'.cell? ⟨n2,0,none⟩=some (.int .i64 0)/\w'.cell? ⟨n2,1,none⟩=some (.int .i64 0)/\w'.cell? ⟨n2,2,none⟩=some (.int .i64 (x 0))/\w'.cell? ⟨n2,3,none⟩=some (.int .i64 0))/\Below w.heap.size w w') (first|assumption|exact⟨⟨k0,k1,k2,k3,k4,k5,l0,l1,l2,l3⟩,hbL.drew⟩|(have hS:((_/\_/\_/\_/\_/\_/\_/\_/\_/\_)/\Below w.heap.size w wq):=(by assumption);exact⟨⟨zaa (zac _ _) hS.1.1,zaa (zac _ _) hS.1.2.1,zaa (zac _ _) hS.1.2.2.1,zaa (zac _ _) hS.1.2.2.2.1,zaa (zac _ _) hS.1.2.2.2.2.1,zaa (zac _ _) hS.1.2.2.2.2.2.1,zaa (zac _ _) hS.1.2.2.2.2.2.2.1,zaa (zac _ _) hS.1.2.2.2.2.2.2.2.1,zaa (zac _ _) hS.1.2.2.2.2.2.2.2.2.1,zaa (zac _ _) hS.1.2.2.2.2.2.2.2.2.2⟩,hS.2.alloc hS.2.size _⟩)) (first|(go_at_call 68;obtain ⟨⟨z0,z1,z2,z3,z4,z5,z6,z7,z8,z9⟩,hq2⟩:((_/\_/\_/\_/\_/\_/\_/\_/\_/\_)/\Below w.heap.size w _):=(by assumption);refine bNew_any (fun _=>0) 0 _ _ ?_;intro wq hB hbq;have hQ:=And.intro (⟨zaa hbq z0,zaa hbq z1,zaa hbq z2,zaa hbq z3,zaa hbq z4,zaa hbq z5,zaa hbq z6,zaa hbq z7,zaa hbq z8,zaa hbq z9⟩:(_/\_/\_/\_/\_/\_/\_/\_/\_/\_)) (zad hq2 hbq);clear hbq z0 z1 z2 z3 z4 z5 z6 z7 z8 z9))
  have hVs:w.heap.size<=V.heap.size:=hbL.size
  have hfin:Hid (R (.returned (.tuple #[.pointer (some ⟨wq.heap.size,0,none⟩),.int .i64 0])) (wq.alloc (.cells #[.int .i64 (x 0),.int .i64 (x 1),.int .i64 (x 2),.int .i64 (x 3),.int .i64 (x 4),.int .i64 (x 5),.int .i64 0,.int .i64 0,.int .i64 (x 0),.int .i64 0,.pointer (some ⟨V.heap.size+1,0,none⟩)] 104))):=by
   have hbq:Below w.heap.size w wq:=hQ.2
   have hok':=hok
   unfold cfOk at hok'
   have e0:((x 0).toNat:Int)=x 0:=Int.toNat_of_nonneg (by omega)
   have e1:((x 1).toNat:Int)=x 1:=Int.toNat_of_nonneg (by omega)
   have e2:((x 2).toNat:Int)=x 2:=Int.toNat_of_nonneg (by omega)
   have e3:((x 3).toNat:Int)=x 3:=Int.toNat_of_nonneg (by omega)
   have e4:((x 4).toNat:Int)=x 4:=Int.toNat_of_nonneg (by omega)
   have e5:((x 5).toNat:Int)=x 5:=Int.toNat_of_nonneg (by omega)
   have hnone: ∀j,nth ([]:List Od) j=od0:=fun j=>by unfold nth;simp
   refine HR2.o hok wq.heap.size ⟨V.heap.size+1,V.heap.size,fun _=> .slice none 0 0,fun _=>[],fun _=>0⟩ _ (hbq.alloc hbq.size _) ?_ ⟨⟨?_,hB.ext (zac _ _),?_⟩,⟨?_,?_,?_,?_,?_,?_,?_⟩,by show (0:Nat)<=3;omega⟩
   .intro g hg
    rcases hg with e|e|e|⟨s,_,e|⟨i,hi,_⟩⟩
    .have:=hbq.size;omega
    .have:g=V.heap.size+1:=e
     omega
    .have:g=V.heap.size:=e
     omega
    .cases e
    .cases hi
   .rw[World.alloc_heap_new]
    simp only[pmc,cfOf,newM,e0,e1,e2,e3,e4,e5]
    rfl
   .intro e
    have:=hB.lt e
    omega
   .refine⟨by simp[newM],by simp[newM],by show (x 0).toNat<=_;omega,fun o ho=>(by cases ho),fun o ho=>(by cases ho),fun s=>by simp[newM,zba]⟩
   .intro j hj
    simp[newM] at hj
   .intro i j hi
    simp[newM] at hi
   .intro s hs
    exact⟨List.Pairwise.nil,fun i hi=>(by cases hi),fun i hi=>by simp[newM] at hi⟩
   .intro s hs i hi
    cases hi
   .intro j
    show (nth ([]:List Od) j).id<=4294967295
    rw[hnone]
    exact Nat.zero_le _
   .intro j hj
    simp[newM] at hj
  clear hQ hB hq2 hbL k0 k1 k2 k3 k4 k5 l0 l1 l2 l3 hVs hblk hb2'
  go_wp2_with fail
  exact hfin.o
end
section
open Go.RowKit Go.Shelf
def shL (ph:Nat) (l:List Od) (t:Nat):List Value:=((zbi l).take t).flatMap fun i=>shc ph (nth l i)
theorem pOrders_any (P:Nat)(b:Bk)(c:Cf)(m:Mk)(s0:Nat)(w:World)(R:EW)(h:PS w P b c m s0)
  (hR: ∀v w',Below w.heap.size w w'->w'.ownsRow w.heap.size 89 6 v (zfg m.all).length (shcs m.phase m.all)->R (.returned v) w'):
  Calls Tryz.prog 26 #[.pointer (some ⟨P,0,none⟩)] w R:=by
 have HR:=zl hR
 have HP:=zl h
 have c10:=h.pm.cells 10 (.pointer (some ⟨b.K,0,none⟩)) rfl
 have hlP:=h.ltP
 clear hR h
 go_enter Tryz.func26,Tryz.ntmps26
 go_wp2_with fail
 refine bLive_any b m.phase m.all _ _ HP.o.pm.book HP.o.pv.ok (HP.o.pv.qd 1 (.inl rfl)) (HP.o.pv.qd 2 (.inr rfl)) (HP.o.pv.lv 1 (.inl rfl)) (HP.o.pv.lv 2 (.inr rfl)) ?_
 intro lv w1 hrow hb1
 have Hrow:=zl hrow
 have Hb1:=zl hb1
 obtain ⟨la,lc,rfl⟩:=zae hrow
 clear hrow hb1 c10
 obtain ⟨n,hn⟩: ∃n,(zbi m.all).length=n:=⟨_,rfl⟩
 rw[hn] at Hrow
 have Hn:=zl hn
 rw[hn]
 clear hn
 have hn9:n<=1048576:=by
  have h1:=HP.o.pv.gd.len
  have h2:(zbi m.all).length<=m.all.length:=by
   unfold zbi
   exact llt (List.length_filter_le _ _) (by simp)
  have:=Hn.o
  omega
 go_wp2_with fail
 go_loopw [3,5,12] (fun u _ i wr=> ∃t:Nat,t<=n/\i= .int .i64 t/\Below w1.heap.size w1 wr/\wr.ownsRow w1.heap.size 89 6 u t (shL m.phase m.all t)) (fun _ _ i _=>n-(intOf i).toNat)
 case atStart=>exact⟨0,Nat.zero_le _,rfl,br,World.ownsRow_nil _ _ _ _⟩
 case round=>
  obtain ⟨t,ht,rfl,hbr,how⟩:=hrel
  have Hbr:=zl hbr
  have How:=zl how
  by_cases htn:t<n
  .obtain ⟨i,hi⟩: ∃i,qat (zbi m.all) t=i:=⟨_,rfl⟩
   have hlt:t<(zbi m.all).length:=by rw[Hn.o];exact htn
   have hmem:i∈zbi m.all:=hi▸zbk _ t hlt
   obtain ⟨hil,hir⟩:=(zel m.all i).1 hmem
   obtain ⟨g,cap,hv,hBg,hgl,_,hcell,_⟩:=zee Hrow.o t _ (zjt b.adr (zbi m.all) t hlt)
   rw[hi] at hcell
   cases hv
   have hc:=zaa hbr hcell
   have hsd:isSd (nth m.all i).side:=(HP.o.pv.ok i hil).side
   have hib:i∈b.q (nth m.all i).side:=(HP.o.pv.qd _ hsd).has i hil rfl hir
   have hO:=((HP.o.ext (zad Hb1.o hbr)).pm.book.ord _ hsd i hib).c
   have e0:=hO.c0
   have e1:=hO.c1
   have e2:=hO.c2
   have e3:=hO.c3
   have e4:=hO.c4
   have e5:=hO.c5
   have hel:=zab e0
   have hgl2:=zab hc
   have hw1:=hbr.size
   have HS:Hid (shL m.phase m.all (t+1)=shL m.phase m.all t++shc m.phase (nth m.all i)):=by
    show shL m.phase m.all (t+1)=shL m.phase m.all t++shc m.phase (nth m.all i)
    unfold shL
    rw[List.take_add_one,List.flatMap_append]
    have:(zbi m.all)[t]?=some i:=by
     rw[←hi]
     unfold qat
     simp[List.getD_eq_getElem?_getD,hlt]
    rw[this]
    simp
   have hone: ∀u∈shc m.phase (nth m.all i),u.oneCell'=true:=by
    intro u hu
    unfold shc at hu
    simp only[List.mem_cons,List.not_mem_nil,or_false] at hu
    rcases hu with rfl|rfl|rfl|rfl|rfl|rfl<;>rfl
   have Hone:=zl hone
   clear hcell hO hmem hi hib hbr how hone
   unfold shc at Hone HS
   generalize nth m.all i=o at *
   generalize wt m.phase o=fl at *
   go_wp2_with (first|(at_builtin;refine Shut.out ?_)|go_in)
   refine⟨?_⟩
   refine za7 w1.heap.size 6 48 t u3 (shL m.phase m.all t) _ How.o hw1 Tryz.infoShown rfl (by decide) rfl ?_ (by omega) (by decide) _ _ 64 Tryz.underlying64 rfl rfl rfl ?_ ?_
   .exact Hone.o
   .rfl
   intro v4 w4 hG
   have Hf1:=zl (Hbr.o.grown hG.grown Hbr.o.size (fun j e=>(How.o.lt j e).1))
   have Hf2:Hid (w4.ownsRow w1.heap.size 89 6 v4 (t+1) (shL m.phase m.all (t+1))):=by
    rw[HS.o]
    exact hG.own
   clear hG How
   go_wp2_with fail
   go_roundw
   case rel=>exact⟨t+1,by omega,by go_num,Hf1.o,Hf2.o⟩
   case measure=>simp[intOf];omega
  .have ht':t=n:=by omega
   subst ht'
   have hfin:Hid (R (.returned u3) wr):=by
    refine HR.o u3 wr (zad Hb1.o hbr) ?_
    have h1:(zfg m.all).length=t:=by
     rw[←Hn.o]
     have:=congrArg List.length (shown_live m.all)
     simpa [zfg] using this.symm
    have h2:shcs m.phase m.all=shL m.phase m.all t:=by
     unfold shcs shL zfg
     rw[←shown_live,←Hn.o,List.take_length]
     simp[List.flatMap_map]
    rw[h1,h2]
    exact zid how Hb1.o.size
   clear hbr how
   go_wp2_with fail
   exact hfin.o
end
