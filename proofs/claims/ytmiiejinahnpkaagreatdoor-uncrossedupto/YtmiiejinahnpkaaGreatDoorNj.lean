import Derived.Test.YtmiiejinahnpkaaGreatDoorNd
set_option maxRecDepth 8000
set_option maxHeartbeats 4000000
namespace Go.Proofs.YtmiiejinahnpkaaGreatDoor
open Go.RowKit Go.Shelf
theorem flatK {α:Type}(k:Nat)(f:α->List Value)(hf: ∀x,(f x).length=k)(L:List α)(i j:Nat)(hi:i<L.length)(hj:j<k):(L.flatMap f)[i * k+j]?=(f L[i])[j]?:=by
 induction L generalizing i with
 |nil=>simp at hi
 |cons x L ih=>
  rw[List.flatMap_cons]
  cases i with
  |zero=>
   rw[List.getElem?_append_left (by rw[hf];omega)]
   simp
  |succ i=>
   have h:(i+1) * k+j-k=i * k+j:=by rw[Nat.add_mul];omega
   rw[List.getElem?_append_right (by rw[hf,Nat.add_mul];omega),hf,h,ih i (by simpa using hi)]
   simp
theorem shown_at (l:List Od)(i:Nat)(h:i<l.length)(hr:0<(nth l i).rest):(zfg (l.take i)).length<(zfg l).length/\nth (zfg l) (zfg (l.take i)).length=nth l i:=by
 have e:zfg l=zfg (l.take i)++(nth l i::zfg (l.drop (i+1))):=by
  conv=>lhs;rw[←List.take_append_drop i l]
  unfold zfg
  rw[List.filter_append,show l.drop i=nth l i::l.drop (i+1) by rw[List.drop_eq_getElem_cons h];simp[nth,h]]
  simp[hr]
 rw[e]
 refine⟨by simp,by simp[nth]⟩
def OrdsAt (w:World) (a:Option Addr) (ph:Nat) (L:List Od):Prop:= ∀i,i<L.length-> ∃g o,a=some ⟨g,o,none⟩/\w.cell? ⟨g,o+i * 6,none⟩=some (.int .i64 (nth L i).id)/\w.cell? ⟨g,o+i * 6+1,none⟩=some (.int .i64 (nth L i).side)/\w.cell? ⟨g,o+i * 6+2,none⟩=some (.int .i64 (nth L i).typ)/\w.cell? ⟨g,o+i * 6+3,none⟩=some (.int .i64 (nth L i).price)/\w.cell? ⟨g,o+i * 6+4,none⟩=some (.int .i64 (nth L i).rest)/\w.cell? ⟨g,o+i * 6+5,none⟩=some (.bool (wt ph (nth L i)))
variable {ph:Nat} {a:Option Addr} {w:World}
theorem ordsAt_own {B:Nat}{c n:Nat}{l:List Od}(h:w.ownsRow B 89 6 (.slice a n c) n (shcs ph l)):OrdsAt w a ph (zfg l):=by
 intro i hi
 have hx: ∀j,j<6->(shcs ph l)[i * 6+j]?=(shc ph (nth (zfg l) i))[j]?:=fun j hj=>by
  unfold shcs
  rw[flatK 6 (shc ph) (fun _=>rfl) (zfg l) i j hi hj]
  simp[nth,hi]
 obtain ⟨g,cap,e,-,-,-,d0,-⟩:=own_cellsK h _ _ (hx 0 (by decide))
 obtain ⟨g1,_,e1,-,-,-,d1,-⟩:=own_cellsK h _ _ (hx 1 (by decide))
 obtain ⟨g2,_,e2,-,-,-,d2,-⟩:=own_cellsK h _ _ (hx 2 (by decide))
 obtain ⟨g3,_,e3,-,-,-,d3,-⟩:=own_cellsK h _ _ (hx 3 (by decide))
 obtain ⟨g4,_,e4,-,-,-,d4,-⟩:=own_cellsK h _ _ (hx 4 (by decide))
 obtain ⟨g5,_,e5,-,-,-,d5,-⟩:=own_cellsK h _ _ (hx 5 (by decide))
 injection e with e
 subst e
 have key: ∀{g' cap':Nat},Value.slice (some ⟨g,0,none⟩) n c= .slice (some ⟨g',0,none⟩) n cap'->g'=g:=by
  intro g' cap' h
  injection h with h
  injection h with h
  injection h with h
  exact h.symm
 obtain rfl:=key e1
 obtain rfl:=key e2
 obtain rfl:=key e3
 obtain rfl:=key e4
 obtain rfl:=key e5
 exact⟨g5,0,rfl,by rw[Nat.zero_add];exact d0,by rw[Nat.zero_add];exact d1,by rw[Nat.zero_add];exact d2,by rw[Nat.zero_add];exact d3,by rw[Nat.zero_add];exact d4,by rw[Nat.zero_add];exact d5⟩
theorem OrdsAt.ext {w':World}{L:List Od}(h:OrdsAt w a ph L)(hb:Below w.heap.size w w'):OrdsAt w' a ph L:=by
 intro i hi
 obtain ⟨g,o,e,h0,h1,h2,h3,h4,h5⟩:=h i hi
 exact⟨g,o,e,(hb.cell (zab h0)).trans h0,(hb.cell (zab h1)).trans h1,(hb.cell (zab h2)).trans h2,(hb.cell (zab h3)).trans h3,(hb.cell (zab h4)).trans h4,(hb.cell (zab h5)).trans h5⟩
theorem kSameOrders_any (a1 a2:Option Addr)(c1 c2 ph1 ph2:Nat)(L1 L2:List Od)(w:World)(R:EW)(hn1:L1.length<=1048576)(hn2:L2.length<=1048576)(h1:OrdsAt w a1 ph1 L1)(h2:OrdsAt w a2 ph2 L2)
  (hR: ∀bb w',Below w.heap.size w w'->(L1=L2->ph1=ph2->bb=true)->R (.returned (.bool bb)) w'):
  Calls Tryz.prog 28 #[.slice a1 L1.length c1,.slice a2 L2.length c2] w R:=by
 have HR:=zl hR
 have H1:=zl h1
 have H2:=zl h2
 clear hR h1 h2
 obtain ⟨n1,hl1⟩:=xq L1.length
 obtain ⟨n2,hl2⟩:=xq L2.length
 rw[←hl1] at hn1
 rw[←hl2] at hn2
 rw[←hl1,←hl2]
 have HL1:=zl (hl1.symm)
 have HL2:=zl (hl2.symm)
 clear hl1 hl2
 by_cases hn:n1=n2
 .subst hn
  go_enter Tryz.func28,Tryz.ntmps28
  go_wp2_with fail
  go_loopw [5,6,7] (fun t _ _ wr=> ∃i:Nat,i<=n1/\t= .int .i64 i/\Below w.heap.size w wr) (fun t _ _ _=>n1-(intOf t).toNat)
  case atStart=>exact⟨0,Nat.zero_le _,rfl,br⟩
  case round=>
   obtain ⟨i,hi,rfl,hbr⟩:=hrel
   have HBr:=zl hbr
   clear hbr
   by_cases hlt:i<n1
   .obtain ⟨g1,o1,rfl,x0,x1,x2,x3,x4,x5⟩:=(H1.o.ext HBr.o) i (by rw[HL1.o];exact hlt)
    obtain ⟨g2,o2,rfl,y0,y1,y2,y3,y4,y5⟩:=(H2.o.ext HBr.o) i (by rw[HL2.o];exact hlt)
    obtain ⟨A,hA⟩:=xq (nth L1 i)
    obtain ⟨B,hB⟩:=xq (nth L2 i)
    rw[←hA] at x0 x1 x2 x3 x4 x5
    rw[←hB] at y0 y1 y2 y3 y4 y5
    obtain ⟨f1,hf1⟩:=xq (wt ph1 A)
    obtain ⟨f2,hf2⟩:=xq (wt ph2 B)
    rw[←hf1] at x5
    rw[←hf2] at y5
    have HA:Hid (L1=L2->ph1=ph2->A=B/\f1=f2):=fun e e'=>by subst e;subst e';rw[hf1,hf2,hA,hB];exact⟨rfl,rfl⟩
    clear hA hB hf1 hf2
    obtain ⟨p0,p1,p2,p3,p4⟩:=A
    obtain ⟨q0,q1,q2,q3,q4⟩:=B
    simp only at x0 x1 x2 x3 x4 y0 y1 y2 y3 y4
    have hi0:(0:Int)<=(i:Int):=by omega
    have hi1:(i:Int)<(n1:Int):=by omega
    have hba:=zac wr (.cells #[.int .i64 (p0:Nat),.int .i64 (p1:Nat),.int .i64 (p2:Nat),.int .i64 (p3:Nat),.int .i64 (p4:Nat),.bool f1] 89)
    have y0:=zaa hba y0
    have y1:=zaa hba y1
    have y2:=zaa hba y2
    have y3:=zaa hba y3
    have y4:=zaa hba y4
    have y5:=zaa hba y5
    have HW:Hid (∀o1 o2,Below w.heap.size w ((wr.alloc o1).alloc o2)):=fun o1 o2=>(HBr.o.alloc HBr.o.size _).alloc (llt HBr.o.size (by simp)) _
    have Hfin:Hid (¬(L1=L2/\ph1=ph2)-> ∀w',Below w.heap.size w w'->R (.returned (.bool false)) w'):=fun hne w' hb=>HR.o false w' hb (fun e e'=>absurd ⟨e,e'⟩ hne)
    clear hba
    by_cases e0:p0=q0
    .subst e0
     by_cases e1:p1=q1
     .subst e1
      by_cases e2:p2=q2
      .subst e2
       by_cases e3:p3=q3
       .subst e3
        by_cases e4:p4=q4
        .subst e4
         by_cases e5:f1=f2
         .subst e5
          go_wp2_with fail
          go_roundw
          case rel=>exact⟨i+1,by omega,by go_num,HW.o _ _⟩
          case measure=>simp only[intOf];omega
         .have hne:=zl (Hfin.o (fun e=>by have:=HA.o e.1 e.2;exact e5 this.2))
          have hff:(f1=true/\f2=false)\/(f1=false/\f2=true):=by cases f1<;>cases f2<;>simp_all
          clear HA Hfin
          rcases hff with ⟨rfl,rfl⟩|⟨rfl,rfl⟩
          .go_wp2_with fail
           exact hne.out _ (HW.o _ _)
          .go_wp2_with fail
           exact hne.out _ (HW.o _ _)
        .have hne:=zl (Hfin.o (fun e=>by have:=HA.o e.1 e.2;have h:=this.1;simp only[Od.mk.injEq] at h;exact e4 (by simp[h])))
         have hb:((p4:Int) !=(q4:Int))=true:=by simp;omega
         go_wp2_with fail
         exact hne.out _ (HW.o _ _)
       .have hne:=zl (Hfin.o (fun e=>by have:=HA.o e.1 e.2;have h:=this.1;simp only[Od.mk.injEq] at h;exact e3 (by simp[h])))
        have hb:((p3:Int) !=(q3:Int))=true:=by simp;omega
        go_wp2_with fail
        exact hne.out _ (HW.o _ _)
      .have hne:=zl (Hfin.o (fun e=>by have:=HA.o e.1 e.2;have h:=this.1;simp only[Od.mk.injEq] at h;exact e2 (by simp[h])))
       have hb:((p2:Int) !=(q2:Int))=true:=by simp;omega
       go_wp2_with fail
       exact hne.out _ (HW.o _ _)
     .have hne:=zl (Hfin.o (fun e=>by have:=HA.o e.1 e.2;have h:=this.1;simp only[Od.mk.injEq] at h;exact e1 (by simp[h])))
      have hb:((p1:Int) !=(q1:Int))=true:=by simp;omega
      go_wp2_with fail
      exact hne.out _ (HW.o _ _)
    .have hne:=zl (Hfin.o (fun e=>by have:=HA.o e.1 e.2;have h:=this.1;simp only[Od.mk.injEq] at h;exact e0 (by simp[h])))
     have hb:((p0:Int) !=(q0:Int))=true:=by simp;omega
     go_wp2_with fail
     exact hne.out _ (HW.o _ _)
   .have hqi:i=n1:=by omega
    subst hqi
    have hfin:Hid (R (.returned (.bool true)) wr):=HR.o true wr HBr.o (fun _ _=>rfl)
    go_wp2_with fail
    exact hfin.o
 .have hf:((n1:Int) !=n2)=true:=by simp;omega
  have hfin:Hid (R (.returned (.bool false)) w):=HR.o false w br (fun e _=>absurd (by rw[←HL1.o,←HL2.o,e]) hn)
  go_enter Tryz.func28,Tryz.ntmps28
  go_wp2_with fail
  exact hfin.o
