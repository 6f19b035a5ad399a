import Derived.Test.YtmiiejinahnpkaaGreatDoorXKnKo
set_option maxRecDepth 8000
set_option maxHeartbeats 1000000
namespace Go.Proofs.YtmiiejinahnpkaaGreatDoor
section
open Go.RowKit Go.Shelf Go.Lib
def cmv (k id sd ty q p t:Nat):Value:= .agg #[.int .i64 k,.int .i64 id,.int .i64 sd,.int .i64 ty,.int .i64 q,.int .i64 p,.int .i64 t]
theorem preasonNew_any (P:Nat)(b:Bk)(c:Cf)(m:Mk)(s0 k id sd ty q p t:Nat)(w:World)(R:EW)(h:PS w P b c m s0)(hty:1<=ty/\ty<=4)(hsd:isSd sd)(hid:id<=4294967295)(hq:q<=4294967295)
  (hR: ∀w',Below w.heap.size w w'->R (.returned (.int .i64 (zbc c m ⟨id,sd,ty,p,q⟩:Nat))) w'):
  Calls Tryz.prog 115 #[.pointer (some ⟨P,0,none⟩),cmv k id sd ty q p t] w R:=by
 have HR:=zl hR
 rw[zi2 (o:=⟨id,sd,ty,p,q⟩) hty] at HR
 dsimp only at HR
 have HP:=zl h
 have hb0:=zac w (.cells #[.int .i64 (k:Nat),.int .i64 (id:Nat),.int .i64 (sd:Nat),.int .i64 (ty:Nat),.int .i64 (q:Nat),.int .i64 (p:Nat),.int .i64 (t:Nat)] 113)
 have hlP:=h.ltP
 have HPA:=zl (h.ext hb0)
 have hcm:=World.alloc_heap_new w (.cells #[.int .i64 (k:Nat),.int .i64 (id:Nat),.int .i64 (sd:Nat),.int .i64 (ty:Nat),.int .i64 (q:Nat),.int .i64 (p:Nat),.int .i64 (t:Nat)] 113)
 have Hb0:=zl hb0
 have Hcm:=zl hcm
 have hbA:=Hb0.o
 have c10:=(HPA.o).pm.cells 10 (.pointer (some ⟨b.K,0,none⟩)) rfl
 have c4:=(HPA.o).pm.cells 4 (.int .i64 (c.orders:Nat)) rfl
 have c5:=(HPA.o).pm.cells 5 (.int .i64 (c.total:Nat)) rfl
 have c6:=(HPA.o).pm.cells 6 (.int .i64 (m.phase:Nat)) rfl
 obtain ⟨_,x1,x2,x3,x4,x5,_⟩:=zc9 Hcm.o
 clear hR h hb0 hcm Hb0 HPA Hcm
 unfold cmv
 go_enter Tryz.func115,Tryz.ntmps115
 go_wp2_with fail
 generalize w.alloc (.cells #[.int .i64 (k:Nat),.int .i64 (id:Nat),.int .i64 (sd:Nat),.int .i64 (ty:Nat),.int .i64 (q:Nat),.int .i64 (p:Nat),.int .i64 (t:Nat)] 113)=A at *
 go_region_held3 (fun w'=>(w'.cell? ⟨P,10,none⟩=some (.pointer (some ⟨b.K,0,none⟩))/\w'.cell? ⟨P,4,none⟩=some (.int .i64 (c.orders:Nat))/\w'.cell? ⟨P,5,none⟩=some (.int .i64 (c.total:Nat))/\w'.cell? ⟨P,6,none⟩=some (.int .i64 (m.phase:Nat))/\w'.cell? ⟨w.heap.size,1,none⟩=some (.int .i64 (id:Nat))/\w'.cell? ⟨w.heap.size,2,none⟩=some (.int .i64 (sd:Nat))/\w'.cell? ⟨w.heap.size,3,none⟩=some (.int .i64 (ty:Nat))/\w'.cell? ⟨w.heap.size,4,none⟩=some (.int .i64 (q:Nat))/\w'.cell? ⟨w.heap.size,5,none⟩=some (.int .i64 (p:Nat)))/\Below w.heap.size w w') (first|assumption|exact⟨⟨c10,c4,c5,c6,x1,x2,x3,x4,x5⟩,hbA.drew⟩) (first|(go_at_call 158;obtain ⟨⟨zc10,zc4,zc5,zc6,zx1,zx2,zx3,zx4,zx5⟩,hq2⟩:((_/\_/\_/\_/\_/\_/\_/\_/\_)/\Below w.heap.size w _):=(by assumption);refine zjl b m.phase m.all id hid _ _ (HP.o.ext hq2).pm.book ?_;intro wq hbq;have hQ:=And.intro (⟨zaa hbq zc10,zaa hbq zc4,zaa hbq zc5,zaa hbq zc6,zaa hbq zx1,zaa hbq zx2,zaa hbq zx3,zaa hbq zx4,zaa hbq zx5⟩:(_/\_/\_/\_/\_/\_/\_/\_/\_)) (zad hq2 hbq);clear hq2 hbq zc10 zc4 zc5 zc6 zx1 zx2 zx3 zx4 zx5))
 obtain ⟨⟨yc10,yc4,yc5,yc6,yx1,yx2,yx3,yx4,yx5⟩,hbA'⟩:((_/\_/\_/\_/\_/\_/\_/\_/\_)/\Below w.heap.size w wq):=hQ
 clear c10 c4 c5 c6 x1 x2 x3 x4 x5 hbA
 have c10:=yc10
 have c4:=yc4
 have c5:=yc5
 have c6:=yc6
 have x1:=yx1
 have x2:=yx2
 have x3:=yx3
 have x4:=yx4
 have x5:=yx5
 have hbA:=hbA'
 clear yc10 yc4 yc5 yc6 yx1 yx2 yx3 yx4 yx5 hbA'
 cases hdup:m.all.any (fun a=>a.id==id) with
 |true=>
  rw[hdup] at HR
  simp only[if_true] at HR
  have hfin:=zl (HR.o wq hbA)
  clear HR hdup
  go_wp2_with fail
  exact hfin.o
 |false=>
  rw[hdup] at HR
  simp only[Bool.false_eq_true,if_false] at HR
  clear hdup
  by_cases hq0:q=0
  .simp only[if_pos hq0] at HR
   have hfin:=zl (HR.o wq hbA)
   clear HR
   subst hq0
   go_wp2_with fail
   exact hfin.o
  .simp only[if_neg hq0] at HR
   have hq0':((q:Int)==0)=false:=by simp;omega
   go_wp2_with fail
   refine pisPriceOf_any ty p _ _ ?_
   generalize (if hasP ty=true then decide (1<=p)&&decide (p<=1000000) else p==0)=pb at *
   cases pb with
   |false=>
    simp only[if_true] at HR
    have hfin:=zl (HR.o wq hbA)
    clear HR
    go_wp2_with fail
    exact hfin.o
   |true=>
    simp only[Bool.true_eq_false,if_false] at HR
    have hp3:=HP.o.ph
    have hcnt:=HP.o.pv.count
    have hcase:m.phase=0\/m.phase=1\/m.phase=2\/m.phase=3:=by omega
    rcases hcase with hph|hph|hph|hph
    .rw[hph] at c6
     have f1:=rfield1 (.func (.func 123) #[] #[]) (.func (.func 124) #[] #[]) (.func (.func 125) #[] #[]) (.func (.func 126) #[] #[]) (.func (.func 127) #[] #[]) (.func (.func 128) #[] #[]) (.func (.func 129) #[] #[])
     have e1:=enters_of Tryz.func124 (by kernel_rfl) rfl
     go_wp2_with fail
     go_region_held3 (fun w'=>(w'.cell? ⟨P,10,none⟩=some (.pointer (some ⟨b.K,0,none⟩))/\w'.cell? ⟨P,4,none⟩=some (.int .i64 (c.orders:Nat))/\w'.cell? ⟨P,5,none⟩=some (.int .i64 (c.total:Nat))/\w'.cell? ⟨P,6,none⟩=some (.int .i64 0)/\w'.cell? ⟨w.heap.size,1,none⟩=some (.int .i64 (id:Nat))/\w'.cell? ⟨w.heap.size,2,none⟩=some (.int .i64 (sd:Nat))/\w'.cell? ⟨w.heap.size,3,none⟩=some (.int .i64 (ty:Nat))/\w'.cell? ⟨w.heap.size,4,none⟩=some (.int .i64 (q:Nat))/\w'.cell? ⟨w.heap.size,5,none⟩=some (.int .i64 (p:Nat)))/\Below w.heap.size w w') (first|assumption|exact⟨⟨c10,c4,c5,c6,x1,x2,x3,x4,x5⟩,hbA.drew⟩) (first|(go_at_call 97;obtain ⟨⟨zc10,zc4,zc5,zc6,zx1,zx2,zx3,zx4,zx5⟩,hq2⟩:((_/\_/\_/\_/\_/\_/\_/\_/\_)/\Below w.heap.size w _):=(by assumption);refine zdw P _ _ zc6 ?_;intro wq hbq;unfold zay fnv;have hQ:=And.intro (⟨zaa hbq zc10,zaa hbq zc4,zaa hbq zc5,zaa hbq zc6,zaa hbq zx1,zaa hbq zx2,zaa hbq zx3,zaa hbq zx4,zaa hbq zx5⟩:(_/\_/\_/\_/\_/\_/\_/\_/\_)) (zad hq2 hbq);clear hq2 hbq zc10 zc4 zc5 zc6 zx1 zx2 zx3 zx4 zx5)|(go_at_call 124;refine pisAny_any ty _ _ ?_))
     obtain ⟨⟨yc10,yc4,yc5,yc6,yx1,yx2,yx3,yx4,yx5⟩,hbA'⟩:((_/\_/\_/\_/\_/\_/\_/\_/\_)/\Below w.heap.size w wq):=hQ
     clear c10 c4 c5 c6 x1 x2 x3 x4 x5 hbA
     have c10:=yc10
     have c4:=yc4
     have c5:=yc5
     have c6:=yc6
     have x1:=yx1
     have x2:=yx2
     have x3:=yx3
     have x4:=yx4
     have x5:=yx5
     have hbA:=hbA'
     clear yc10 yc4 yc5 yc6 yx1 yx2 yx3 yx4 yx5 hbA'
     clear f1 e1
     have hadm:adm m.phase ty=true:=by rw[hph];rfl
     rw[hadm] at HR
     simp only[Bool.true_eq_false,if_false] at HR
     clear hadm
     have hn9:(b.q 1).length+(b.q 2).length<=2097152:=by
      have h1:=HP.o.pm.book.cnt 1 (.inl rfl)
      have h2:=HP.o.pm.book.cnt 2 (.inr rfl)
      omega
     go_wp2_with fail
     go_region_held3 (fun w'=>(w'.cell? ⟨P,10,none⟩=some (.pointer (some ⟨b.K,0,none⟩))/\w'.cell? ⟨P,4,none⟩=some (.int .i64 (c.orders:Nat))/\w'.cell? ⟨P,5,none⟩=some (.int .i64 (c.total:Nat))/\w'.cell? ⟨P,6,none⟩=some (.int .i64 0)/\w'.cell? ⟨w.heap.size,1,none⟩=some (.int .i64 (id:Nat))/\w'.cell? ⟨w.heap.size,2,none⟩=some (.int .i64 (sd:Nat))/\w'.cell? ⟨w.heap.size,3,none⟩=some (.int .i64 (ty:Nat))/\w'.cell? ⟨w.heap.size,4,none⟩=some (.int .i64 (q:Nat))/\w'.cell? ⟨w.heap.size,5,none⟩=some (.int .i64 (p:Nat)))/\Below w.heap.size w w') (first|assumption|exact⟨⟨c10,c4,c5,c6,x1,x2,x3,x4,x5⟩,hbA.drew⟩) (first|(go_at_call 160;obtain ⟨⟨zc10,zc4,zc5,zc6,zx1,zx2,zx3,zx4,zx5⟩,hq2⟩:((_/\_/\_/\_/\_/\_/\_/\_/\_)/\Below w.heap.size w _):=(by assumption);refine ziv b m.phase m.all _ _ (HP.o.ext hq2).pm.book ?_;intro wq hbq;have hQ:=And.intro (⟨zaa hbq zc10,zaa hbq zc4,zaa hbq zc5,zaa hbq zc6,zaa hbq zx1,zaa hbq zx2,zaa hbq zx3,zaa hbq zx4,zaa hbq zx5⟩:(_/\_/\_/\_/\_/\_/\_/\_/\_)) (zad hq2 hbq);clear hq2 hbq zc10 zc4 zc5 zc6 zx1 zx2 zx3 zx4 zx5))
     obtain ⟨⟨yc10,yc4,yc5,yc6,yx1,yx2,yx3,yx4,yx5⟩,hbA'⟩:((_/\_/\_/\_/\_/\_/\_/\_/\_)/\Below w.heap.size w wq):=hQ
     clear c10 c4 c5 c6 x1 x2 x3 x4 x5 hbA
     have c10:=yc10
     have c4:=yc4
     have c5:=yc5
     have c6:=yc6
     have x1:=yx1
     have x2:=yx2
     have x3:=yx3
     have x4:=yx4
     have x5:=yx5
     have hbA:=hbA'
     clear yc10 yc4 yc5 yc6 yx1 yx2 yx3 yx4 yx5 hbA'
     clear hn9
     by_cases hfull:c.orders<=zap m.all
     .simp only[if_pos hfull] at HR
      have hfin:=zl (HR.o wq hbA)
      clear HR
      have hfull':(c.orders:Int)<=(zap m.all:Int):=by omega
      go_wp2_with fail
      exact hfin.o
     .simp only[if_neg hfull] at HR
      have hfull': ¬((c.orders:Int)<=(zap m.all:Int)):=by omega
      have hsum:=HP.o.pv.gd.sum sd
      go_wp2_with fail
      go_region_held3 (fun w'=>(w'.cell? ⟨P,10,none⟩=some (.pointer (some ⟨b.K,0,none⟩))/\w'.cell? ⟨P,4,none⟩=some (.int .i64 (c.orders:Nat))/\w'.cell? ⟨P,5,none⟩=some (.int .i64 (c.total:Nat))/\w'.cell? ⟨P,6,none⟩=some (.int .i64 0)/\w'.cell? ⟨w.heap.size,1,none⟩=some (.int .i64 (id:Nat))/\w'.cell? ⟨w.heap.size,2,none⟩=some (.int .i64 (sd:Nat))/\w'.cell? ⟨w.heap.size,3,none⟩=some (.int .i64 (ty:Nat))/\w'.cell? ⟨w.heap.size,4,none⟩=some (.int .i64 (q:Nat))/\w'.cell? ⟨w.heap.size,5,none⟩=some (.int .i64 (p:Nat)))/\Below w.heap.size w w') (first|assumption|exact⟨⟨c10,c4,c5,c6,x1,x2,x3,x4,x5⟩,hbA.drew⟩) (first|(go_at_call 161;obtain ⟨_,hq2⟩:(_/\Below w.heap.size w _):=(by assumption);refine ziu b m.phase m.all sd hsd _ _ (HP.o.ext hq2).pm.book (HP.o.pv.qd sd hsd) (HP.o.pv.gd.sum sd) ?_;clear hq2))
      have hwr:IntKind.i64.wrap ((zba m.all sd:Int)+(q:Int))=(zba m.all sd:Int)+(q:Int):=IntWalk.i64_in _ (by omega)
      rw[hwr]
      clear hwr
      by_cases htot:c.total<q+zba m.all sd
      .simp only[if_pos htot] at HR
       have hfin:Hid (R (.returned (.int .i64 (8:Nat))) wq.drew):=HR.o _ hbA.drew
       clear HR
       have htot':(c.total:Int)<(zba m.all sd:Int)+(q:Int):=by omega
       go_wp2_with fail
       exact hfin.o
      .simp only[if_neg htot] at HR
       have hfin:Hid (R (.returned (.int .i64 (0:Nat))) wq.drew):=HR.o _ hbA.drew
       clear HR
       have htot': ¬((c.total:Int)<(zba m.all sd:Int)+(q:Int)):=by omega
       go_wp2_with fail
       exact hfin.o
    .rw[hph] at c6
     have f1:=rfield1 (.func (.func 130) #[] #[]) (.func (.func 131) #[] #[]) (.func (.func 125) #[] #[]) (.func (.func 132) #[] #[]) (.func (.func 129) #[] #[]) (.func (.func 129) #[] #[]) (.func (.func 133) #[] #[])
     have e1:=enters_of Tryz.func131 (by kernel_rfl) rfl
     go_wp2_with fail
     go_region_held3 (fun w'=>(w'.cell? ⟨P,10,none⟩=some (.pointer (some ⟨b.K,0,none⟩))/\w'.cell? ⟨P,4,none⟩=some (.int .i64 (c.orders:Nat))/\w'.cell? ⟨P,5,none⟩=some (.int .i64 (c.total:Nat))/\w'.cell? ⟨P,6,none⟩=some (.int .i64 1)/\w'.cell? ⟨w.heap.size,1,none⟩=some (.int .i64 (id:Nat))/\w'.cell? ⟨w.heap.size,2,none⟩=some (.int .i64 (sd:Nat))/\w'.cell? ⟨w.heap.size,3,none⟩=some (.int .i64 (ty:Nat))/\w'.cell? ⟨w.heap.size,4,none⟩=some (.int .i64 (q:Nat))/\w'.cell? ⟨w.heap.size,5,none⟩=some (.int .i64 (p:Nat)))/\Below w.heap.size w w') (first|assumption|exact⟨⟨c10,c4,c5,c6,x1,x2,x3,x4,x5⟩,hbA.drew⟩) (first|(go_at_call 97;obtain ⟨⟨zc10,zc4,zc5,zc6,zx1,zx2,zx3,zx4,zx5⟩,hq2⟩:((_/\_/\_/\_/\_/\_/\_/\_/\_)/\Below w.heap.size w _):=(by assumption);refine zde P _ _ zc6 ?_;intro wq hbq;unfold zay fnv;have hQ:=And.intro (⟨zaa hbq zc10,zaa hbq zc4,zaa hbq zc5,zaa hbq zc6,zaa hbq zx1,zaa hbq zx2,zaa hbq zx3,zaa hbq zx4,zaa hbq zx5⟩:(_/\_/\_/\_/\_/\_/\_/\_/\_)) (zad hq2 hbq);clear hq2 hbq zc10 zc4 zc5 zc6 zx1 zx2 zx3 zx4 zx5)|(go_at_call 131;refine zhn ty _ _ ?_))
     obtain ⟨⟨yc10,yc4,yc5,yc6,yx1,yx2,yx3,yx4,yx5⟩,hbA'⟩:((_/\_/\_/\_/\_/\_/\_/\_/\_)/\Below w.heap.size w wq):=hQ
     clear c10 c4 c5 c6 x1 x2 x3 x4 x5 hbA
     have c10:=yc10
     have c4:=yc4
     have c5:=yc5
     have c6:=yc6
     have x1:=yx1
     have x2:=yx2
     have x3:=yx3
     have x4:=yx4
     have x5:=yx5
     have hbA:=hbA'
     clear yc10 yc4 yc5 yc6 yx1 yx2 yx3 yx4 yx5 hbA'
     clear f1 e1
     have hadm:adm m.phase ty=(ty !=3):=by rw[hph];rfl
     rw[hadm] at HR
     clear hadm
     cases hmoo:(ty !=3) with
     |false=>
      rw[hmoo] at HR
      simp only[if_true] at HR
      have hfin:=zl (HR.o wq hbA)
      clear HR
      go_wp2_with fail
      exact hfin.o
     |true=>
      rw[hmoo] at HR
      simp only[Bool.true_eq_false,if_false] at HR
      have hn9:(b.q 1).length+(b.q 2).length<=2097152:=by
       have h1:=HP.o.pm.book.cnt 1 (.inl rfl)
       have h2:=HP.o.pm.book.cnt 2 (.inr rfl)
       omega
      go_wp2_with fail
      go_region_held3 (fun w'=>(w'.cell? ⟨P,10,none⟩=some (.pointer (some ⟨b.K,0,none⟩))/\w'.cell? ⟨P,4,none⟩=some (.int .i64 (c.orders:Nat))/\w'.cell? ⟨P,5,none⟩=some (.int .i64 (c.total:Nat))/\w'.cell? ⟨P,6,none⟩=some (.int .i64 1)/\w'.cell? ⟨w.heap.size,1,none⟩=some (.int .i64 (id:Nat))/\w'.cell? ⟨w.heap.size,2,none⟩=some (.int .i64 (sd:Nat))/\w'.cell? ⟨w.heap.size,3,none⟩=some (.int .i64 (ty:Nat))/\w'.cell? ⟨w.heap.size,4,none⟩=some (.int .i64 (q:Nat))/\w'.cell? ⟨w.heap.size,5,none⟩=some (.int .i64 (p:Nat)))/\Below w.heap.size w w') (first|assumption|exact⟨⟨c10,c4,c5,c6,x1,x2,x3,x4,x5⟩,hbA.drew⟩) (first|(go_at_call 160;obtain ⟨⟨zc10,zc4,zc5,zc6,zx1,zx2,zx3,zx4,zx5⟩,hq2⟩:((_/\_/\_/\_/\_/\_/\_/\_/\_)/\Below w.heap.size w _):=(by assumption);refine ziv b m.phase m.all _ _ (HP.o.ext hq2).pm.book ?_;intro wq hbq;have hQ:=And.intro (⟨zaa hbq zc10,zaa hbq zc4,zaa hbq zc5,zaa hbq zc6,zaa hbq zx1,zaa hbq zx2,zaa hbq zx3,zaa hbq zx4,zaa hbq zx5⟩:(_/\_/\_/\_/\_/\_/\_/\_/\_)) (zad hq2 hbq);clear hq2 hbq zc10 zc4 zc5 zc6 zx1 zx2 zx3 zx4 zx5))
      obtain ⟨⟨yc10,yc4,yc5,yc6,yx1,yx2,yx3,yx4,yx5⟩,hbA'⟩:((_/\_/\_/\_/\_/\_/\_/\_/\_)/\Below w.heap.size w wq):=hQ
      clear c10 c4 c5 c6 x1 x2 x3 x4 x5 hbA
      have c10:=yc10
      have c4:=yc4
      have c5:=yc5
      have c6:=yc6
      have x1:=yx1
      have x2:=yx2
      have x3:=yx3
      have x4:=yx4
      have x5:=yx5
      have hbA:=hbA'
      clear yc10 yc4 yc5 yc6 yx1 yx2 yx3 yx4 yx5 hbA'
      clear hn9
      by_cases hfull:c.orders<=zap m.all
      .simp only[if_pos hfull] at HR
       have hfin:=zl (HR.o wq hbA)
       clear HR
       have hfull':(c.orders:Int)<=(zap m.all:Int):=by omega
       go_wp2_with fail
       exact hfin.o
      .simp only[if_neg hfull] at HR
       have hfull': ¬((c.orders:Int)<=(zap m.all:Int)):=by omega
       have hsum:=HP.o.pv.gd.sum sd
       go_wp2_with fail
       go_region_held3 (fun w'=>(w'.cell? ⟨P,10,none⟩=some (.pointer (some ⟨b.K,0,none⟩))/\w'.cell? ⟨P,4,none⟩=some (.int .i64 (c.orders:Nat))/\w'.cell? ⟨P,5,none⟩=some (.int .i64 (c.total:Nat))/\w'.cell? ⟨P,6,none⟩=some (.int .i64 1)/\w'.cell? ⟨w.heap.size,1,none⟩=some (.int .i64 (id:Nat))/\w'.cell? ⟨w.heap.size,2,none⟩=some (.int .i64 (sd:Nat))/\w'.cell? ⟨w.heap.size,3,none⟩=some (.int .i64 (ty:Nat))/\w'.cell? ⟨w.heap.size,4,none⟩=some (.int .i64 (q:Nat))/\w'.cell? ⟨w.heap.size,5,none⟩=some (.int .i64 (p:Nat)))/\Below w.heap.size w w') (first|assumption|exact⟨⟨c10,c4,c5,c6,x1,x2,x3,x4,x5⟩,hbA.drew⟩) (first|(go_at_call 161;obtain ⟨_,hq2⟩:(_/\Below w.heap.size w _):=(by assumption);refine ziu b m.phase m.all sd hsd _ _ (HP.o.ext hq2).pm.book (HP.o.pv.qd sd hsd) (HP.o.pv.gd.sum sd) ?_;clear hq2))
       have hwr:IntKind.i64.wrap ((zba m.all sd:Int)+(q:Int))=(zba m.all sd:Int)+(q:Int):=IntWalk.i64_in _ (by omega)
       rw[hwr]
       clear hwr
       by_cases htot:c.total<q+zba m.all sd
       .simp only[if_pos htot] at HR
        have hfin:Hid (R (.returned (.int .i64 (8:Nat))) wq.drew):=HR.o _ hbA.drew
        clear HR
        have htot':(c.total:Int)<(zba m.all sd:Int)+(q:Int):=by omega
        go_wp2_with fail
        exact hfin.o
       .simp only[if_neg htot] at HR
        have hfin:Hid (R (.returned (.int .i64 (0:Nat))) wq.drew):=HR.o _ hbA.drew
        clear HR
        have htot': ¬((c.total:Int)<(zba m.all sd:Int)+(q:Int)):=by omega
        go_wp2_with fail
        exact hfin.o
    .rw[hph] at c6
     have f1:=rfield1 (.func (.func 134) #[] #[]) (.func (.func 131) #[] #[]) (.func (.func 135) #[] #[]) (.func (.func 126) #[] #[]) (.func (.func 127) #[] #[]) (.func (.func 128) #[] #[]) (.func (.func 136) #[] #[])
     have e1:=enters_of Tryz.func131 (by kernel_rfl) rfl
     go_wp2_with fail
     go_region_held3 (fun w'=>(w'.cell? ⟨P,10,none⟩=some (.pointer (some ⟨b.K,0,none⟩))/\w'.cell? ⟨P,4,none⟩=some (.int .i64 (c.orders:Nat))/\w'.cell? ⟨P,5,none⟩=some (.int .i64 (c.total:Nat))/\w'.cell? ⟨P,6,none⟩=some (.int .i64 2)/\w'.cell? ⟨w.heap.size,1,none⟩=some (.int .i64 (id:Nat))/\w'.cell? ⟨w.heap.size,2,none⟩=some (.int .i64 (sd:Nat))/\w'.cell? ⟨w.heap.size,3,none⟩=some (.int .i64 (ty:Nat))/\w'.cell? ⟨w.heap.size,4,none⟩=some (.int .i64 (q:Nat))/\w'.cell? ⟨w.heap.size,5,none⟩=some (.int .i64 (p:Nat)))/\Below w.heap.size w w') (first|assumption|exact⟨⟨c10,c4,c5,c6,x1,x2,x3,x4,x5⟩,hbA.drew⟩) (first|(go_at_call 97;obtain ⟨⟨zc10,zc4,zc5,zc6,zx1,zx2,zx3,zx4,zx5⟩,hq2⟩:((_/\_/\_/\_/\_/\_/\_/\_/\_)/\Below w.heap.size w _):=(by assumption);refine zdd P _ _ zc6 ?_;intro wq hbq;unfold zay fnv;have hQ:=And.intro (⟨zaa hbq zc10,zaa hbq zc4,zaa hbq zc5,zaa hbq zc6,zaa hbq zx1,zaa hbq zx2,zaa hbq zx3,zaa hbq zx4,zaa hbq zx5⟩:(_/\_/\_/\_/\_/\_/\_/\_/\_)) (zad hq2 hbq);clear hq2 hbq zc10 zc4 zc5 zc6 zx1 zx2 zx3 zx4 zx5)|(go_at_call 131;refine zhn ty _ _ ?_))
     obtain ⟨⟨yc10,yc4,yc5,yc6,yx1,yx2,yx3,yx4,yx5⟩,hbA'⟩:((_/\_/\_/\_/\_/\_/\_/\_/\_)/\Below w.heap.size w wq):=hQ
     clear c10 c4 c5 c6 x1 x2 x3 x4 x5 hbA
     have c10:=yc10
     have c4:=yc4
     have c5:=yc5
     have c6:=yc6
     have x1:=yx1
     have x2:=yx2
     have x3:=yx3
     have x4:=yx4
     have x5:=yx5
     have hbA:=hbA'
     clear yc10 yc4 yc5 yc6 yx1 yx2 yx3 yx4 yx5 hbA'
     clear f1 e1
     have hadm:adm m.phase ty=(ty !=3):=by rw[hph];rfl
     rw[hadm] at HR
     clear hadm
     cases hmoo:(ty !=3) with
     |false=>
      rw[hmoo] at HR
      simp only[if_true] at HR
      have hfin:=zl (HR.o wq hbA)
      clear HR
      go_wp2_with fail
      exact hfin.o
     |true=>
      rw[hmoo] at HR
      simp only[Bool.true_eq_false,if_false] at HR
      have hn9:(b.q 1).length+(b.q 2).length<=2097152:=by
       have h1:=HP.o.pm.book.cnt 1 (.inl rfl)
       have h2:=HP.o.pm.book.cnt 2 (.inr rfl)
       omega
      go_wp2_with fail
      go_region_held3 (fun w'=>(w'.cell? ⟨P,10,none⟩=some (.pointer (some ⟨b.K,0,none⟩))/\w'.cell? ⟨P,4,none⟩=some (.int .i64 (c.orders:Nat))/\w'.cell? ⟨P,5,none⟩=some (.int .i64 (c.total:Nat))/\w'.cell? ⟨P,6,none⟩=some (.int .i64 2)/\w'.cell? ⟨w.heap.size,1,none⟩=some (.int .i64 (id:Nat))/\w'.cell? ⟨w.heap.size,2,none⟩=some (.int .i64 (sd:Nat))/\w'.cell? ⟨w.heap.size,3,none⟩=some (.int .i64 (ty:Nat))/\w'.cell? ⟨w.heap.size,4,none⟩=some (.int .i64 (q:Nat))/\w'.cell? ⟨w.heap.size,5,none⟩=some (.int .i64 (p:Nat)))/\Below w.heap.size w w') (first|assumption|exact⟨⟨c10,c4,c5,c6,x1,x2,x3,x4,x5⟩,hbA.drew⟩) (first|(go_at_call 160;obtain ⟨⟨zc10,zc4,zc5,zc6,zx1,zx2,zx3,zx4,zx5⟩,hq2⟩:((_/\_/\_/\_/\_/\_/\_/\_/\_)/\Below w.heap.size w _):=(by assumption);refine ziv b m.phase m.all _ _ (HP.o.ext hq2).pm.book ?_;intro wq hbq;have hQ:=And.intro (⟨zaa hbq zc10,zaa hbq zc4,zaa hbq zc5,zaa hbq zc6,zaa hbq zx1,zaa hbq zx2,zaa hbq zx3,zaa hbq zx4,zaa hbq zx5⟩:(_/\_/\_/\_/\_/\_/\_/\_/\_)) (zad hq2 hbq);clear hq2 hbq zc10 zc4 zc5 zc6 zx1 zx2 zx3 zx4 zx5))
      obtain ⟨⟨yc10,yc4,yc5,yc6,yx1,yx2,yx3,yx4,yx5⟩,hbA'⟩:((_/\_/\_/\_/\_/\_/\_/\_/\_)/\Below w.heap.size w wq):=hQ
      clear c10 c4 c5 c6 x1 x2 x3 x4 x5 hbA
      have c10:=yc10
      have c4:=yc4
      have c5:=yc5
      have c6:=yc6
      have x1:=yx1
      have x2:=yx2
      have x3:=yx3
      have x4:=yx4
      have x5:=yx5
      have hbA:=hbA'
      clear yc10 yc4 yc5 yc6 yx1 yx2 yx3 yx4 yx5 hbA'
      clear hn9
      by_cases hfull:c.orders<=zap m.all
      .simp only[if_pos hfull] at HR
       have hfin:=zl (HR.o wq hbA)
       clear HR
       have hfull':(c.orders:Int)<=(zap m.all:Int):=by omega
       go_wp2_with fail
       exact hfin.o
      .simp only[if_neg hfull] at HR
       have hfull': ¬((c.orders:Int)<=(zap m.all:Int)):=by omega
       have hsum:=HP.o.pv.gd.sum sd
       go_wp2_with fail
       go_region_held3 (fun w'=>(w'.cell? ⟨P,10,none⟩=some (.pointer (some ⟨b.K,0,none⟩))/\w'.cell? ⟨P,4,none⟩=some (.int .i64 (c.orders:Nat))/\w'.cell? ⟨P,5,none⟩=some (.int .i64 (c.total:Nat))/\w'.cell? ⟨P,6,none⟩=some (.int .i64 2)/\w'.cell? ⟨w.heap.size,1,none⟩=some (.int .i64 (id:Nat))/\w'.cell? ⟨w.heap.size,2,none⟩=some (.int .i64 (sd:Nat))/\w'.cell? ⟨w.heap.size,3,none⟩=some (.int .i64 (ty:Nat))/\w'.cell? ⟨w.heap.size,4,none⟩=some (.int .i64 (q:Nat))/\w'.cell? ⟨w.heap.size,5,none⟩=some (.int .i64 (p:Nat)))/\Below w.heap.size w w') (first|assumption|exact⟨⟨c10,c4,c5,c6,x1,x2,x3,x4,x5⟩,hbA.drew⟩) (first|(go_at_call 161;obtain ⟨_,hq2⟩:(_/\Below w.heap.size w _):=(by assumption);refine ziu b m.phase m.all sd hsd _ _ (HP.o.ext hq2).pm.book (HP.o.pv.qd sd hsd) (HP.o.pv.gd.sum sd) ?_;clear hq2))
       have hwr:IntKind.i64.wrap ((zba m.all sd:Int)+(q:Int))=(zba m.all sd:Int)+(q:Int):=IntWalk.i64_in _ (by omega)
       rw[hwr]
       clear hwr
       by_cases htot:c.total<q+zba m.all sd
       .simp only[if_pos htot] at HR
        have hfin:Hid (R (.returned (.int .i64 (8:Nat))) wq.drew):=HR.o _ hbA.drew
        clear HR
        have htot':(c.total:Int)<(zba m.all sd:Int)+(q:Int):=by omega
        go_wp2_with fail
        exact hfin.o
       .simp only[if_neg htot] at HR
        have hfin:Hid (R (.returned (.int .i64 (0:Nat))) wq.drew):=HR.o _ hbA.drew
        clear HR
        have htot': ¬((c.total:Int)<(zba m.all sd:Int)+(q:Int)):=by omega
        go_wp2_with fail
        exact hfin.o
    .rw[hph] at c6
     have f1:=rfield1 (.func (.func 137) #[] #[]) (.func (.func 135) #[] #[]) (.func (.func 135) #[] #[]) (.func (.func 126) #[] #[]) (.func (.func 129) #[] #[]) (.func (.func 129) #[] #[]) (.func (.func 138) #[] #[])
     have e1:=enters_of Tryz.func135 (by kernel_rfl) rfl
     go_wp2_with fail
     go_region_held3 (fun w'=>(w'.cell? ⟨P,10,none⟩=some (.pointer (some ⟨b.K,0,none⟩))/\w'.cell? ⟨P,4,none⟩=some (.int .i64 (c.orders:Nat))/\w'.cell? ⟨P,5,none⟩=some (.int .i64 (c.total:Nat))/\w'.cell? ⟨P,6,none⟩=some (.int .i64 3)/\w'.cell? ⟨w.heap.size,1,none⟩=some (.int .i64 (id:Nat))/\w'.cell? ⟨w.heap.size,2,none⟩=some (.int .i64 (sd:Nat))/\w'.cell? ⟨w.heap.size,3,none⟩=some (.int .i64 (ty:Nat))/\w'.cell? ⟨w.heap.size,4,none⟩=some (.int .i64 (q:Nat))/\w'.cell? ⟨w.heap.size,5,none⟩=some (.int .i64 (p:Nat)))/\Below w.heap.size w w') (first|assumption|exact⟨⟨c10,c4,c5,c6,x1,x2,x3,x4,x5⟩,hbA.drew⟩) (first|(go_at_call 97;obtain ⟨⟨zc10,zc4,zc5,zc6,zx1,zx2,zx3,zx4,zx5⟩,hq2⟩:((_/\_/\_/\_/\_/\_/\_/\_/\_)/\Below w.heap.size w _):=(by assumption);refine zfq P _ _ zc6 ?_;intro wq hbq;unfold zay fnv;have hQ:=And.intro (⟨zaa hbq zc10,zaa hbq zc4,zaa hbq zc5,zaa hbq zc6,zaa hbq zx1,zaa hbq zx2,zaa hbq zx3,zaa hbq zx4,zaa hbq zx5⟩:(_/\_/\_/\_/\_/\_/\_/\_/\_)) (zad hq2 hbq);clear hq2 hbq zc10 zc4 zc5 zc6 zx1 zx2 zx3 zx4 zx5)|(go_at_call 135;refine pisNo_any ty _ _ ?_))
     obtain ⟨⟨yc10,yc4,yc5,yc6,yx1,yx2,yx3,yx4,yx5⟩,hbA'⟩:((_/\_/\_/\_/\_/\_/\_/\_/\_)/\Below w.heap.size w wq):=hQ
     clear c10 c4 c5 c6 x1 x2 x3 x4 x5 hbA
     have c10:=yc10
     have c4:=yc4
     have c5:=yc5
     have c6:=yc6
     have x1:=yx1
     have x2:=yx2
     have x3:=yx3
     have x4:=yx4
     have x5:=yx5
     have hbA:=hbA'
     clear yc10 yc4 yc5 yc6 yx1 yx2 yx3 yx4 yx5 hbA'
     clear f1 e1
     have hadm:adm m.phase ty=false:=by rw[hph];rfl
     rw[hadm] at HR
     simp only[if_true] at HR
     have hfin:=zl (HR.o wq hbA)
     clear HR
     go_wp2_with fail
     exact hfin.o
end
section
open Go.RowKit Go.Shelf Go.Lib
theorem bFind_none (b:Bk)(m:Mk)(ph id:Nat)(w:World)(R:EW)(h:BKs w b ph m.all)(hv:Pv b m)(hl:zas m.all id m.all.length= -1)(hR:R (.returned (.pointer none)) w):
  Calls Tryz.prog 120 #[.pointer (some ⟨b.K,0,none⟩),.int .i64 (id:Nat)] w R:=by
 refine bFind_any b ph m.all id w R h (fun _=>hR) fun s k hs hk e=>?_
 have:=hv.known hs hk e
 omega
theorem zgs (b:Bk)(m:Mk)(ph id i:Nat)(w:World)(R:EW)(h:BKs w b ph m.all)(hv:Pv b m)(hl:zas m.all id m.all.length=(i:Nat))(hR:R (.returned (.pointer (some ⟨b.adr i,0,none⟩))) w):
  Calls Tryz.prog 120 #[.pointer (some ⟨b.K,0,none⟩),.int .i64 (id:Nat)] w R:=by
 refine bFind_any b ph m.all id w R h (fun hn=>?_) fun s k hs hk e=>?_
 .have:=hv.unknown id hn
  omega
 .have:=hv.known hs hk e
  have e2:qat (b.q s) k=i:=by omega
  rw[e2]
  exact hR
theorem Pv.at_ {b:Bk}{m:Mk}(h:Pv b m){id i:Nat}(hl:zas m.all id m.all.length=(i:Nat)):(∃s,isSd s/\i∈b.q s)/\(nth m.all i).id=id:=by
 rcases zdp m.all id m.all.length with e|⟨k,e,hk,hid,hr⟩
 .omega
 .have:k=i:=by omega
  subst this
  exact⟨⟨_,(h.ok k hk).side,(h.qd _ (h.ok k hk).side).has k hk rfl hr⟩,hid⟩
theorem zib (P:Nat)(b:Bk)(c:Cf)(m:Mk)(s0 k id sd ty q p t:Nat)(w:World)(R:EW)(h:PS w P b c m s0)
  (hR: ∀w',Below w.heap.size w w'->R (.returned (.int .i64 ((if zas m.all id m.all.length<0 then 3 else 0:Nat):Nat))) w'):
  Calls Tryz.prog 116 #[.pointer (some ⟨P,0,none⟩),cmv k id sd ty q p t] w R:=by
 have HR:=zl hR
 have HP:=zl h
 have hlP:=h.ltP
 have hb0:=zac w (.cells #[.int .i64 (k:Nat),.int .i64 (id:Nat),.int .i64 (sd:Nat),.int .i64 (ty:Nat),.int .i64 (q:Nat),.int .i64 (p:Nat),.int .i64 (t:Nat)] 113)
 have HPA:=zl (h.ext hb0)
 obtain ⟨_,x1,_,_,x4,_,_⟩:=zc9 (World.alloc_heap_new w (.cells #[.int .i64 (k:Nat),.int .i64 (id:Nat),.int .i64 (sd:Nat),.int .i64 (ty:Nat),.int .i64 (q:Nat),.int .i64 (p:Nat),.int .i64 (t:Nat)] 113))
 have Hb0:=zl hb0
 have c10:=HPA.o.pm.cells 10 (.pointer (some ⟨b.K,0,none⟩)) rfl
 clear hR h hb0
 unfold cmv
 go_enter Tryz.func116,Tryz.ntmps116
 go_wp2_with fail
 generalize w.alloc (.cells #[.int .i64 (k:Nat),.int .i64 (id:Nat),.int .i64 (sd:Nat),.int .i64 (ty:Nat),.int .i64 (q:Nat),.int .i64 (p:Nat),.int .i64 (t:Nat)] 113)=A at *
 rcases zdp m.all id m.all.length with e|⟨i,e,_,_,_⟩
 .rw[e] at HR
  go_region_held3 (fun w'=>(w'.cell? ⟨P,10,none⟩=some (.pointer (some ⟨b.K,0,none⟩))/\w'.cell? ⟨w.heap.size,1,none⟩=some (.int .i64 (id:Nat)))/\Below w.heap.size w w') (first|assumption|exact⟨⟨c10,x1⟩,Hb0.o.drew⟩) (first|(go_at_call 120;obtain ⟨_,hq2⟩:(_/\Below w.heap.size w _):=(by assumption);refine bFind_none b m m.phase id _ _ (HP.o.ext hq2).pm.book HP.o.pv e ?_;clear hq2))
  have hfin:Hid (R (.returned (.int .i64 (3:Nat))) A.drew):=HR.o _ Hb0.o.drew
  clear HR
  go_wp2_with fail
  exact hfin.o
 .rw[e] at HR
  go_region_held3 (fun w'=>(w'.cell? ⟨P,10,none⟩=some (.pointer (some ⟨b.K,0,none⟩))/\w'.cell? ⟨w.heap.size,1,none⟩=some (.int .i64 (id:Nat)))/\Below w.heap.size w w') (first|assumption|exact⟨⟨c10,x1⟩,Hb0.o.drew⟩) (first|(go_at_call 120;obtain ⟨_,hq2⟩:(_/\Below w.heap.size w _):=(by assumption);refine zgs b m m.phase id i _ _ (HP.o.ext hq2).pm.book HP.o.pv e ?_;clear hq2))
  have hfin:Hid (R (.returned (.int .i64 (0:Nat))) A.drew):=by
   have:=HR.o _ Hb0.o.drew
   rw[if_neg (by omega)] at this
   exact this
  clear HR
  go_wp2_with fail
  exact hfin.o
theorem zia (P:Nat)(b:Bk)(c:Cf)(m:Mk)(s0 k id sd ty q p t:Nat)(w:World)(R:EW)(h:PS w P b c m s0)
  (hR: ∀w',Below w.heap.size w w'->R (.returned (.int .i64 ((if zas m.all id m.all.length<0 then 3 else if q=0 then 4 else 0:Nat):Nat))) w'):
  Calls Tryz.prog 117 #[.pointer (some ⟨P,0,none⟩),cmv k id sd ty q p t] w R:=by
 have HR:=zl hR
 have HP:=zl h
 have hlP:=h.ltP
 have hb0:=zac w (.cells #[.int .i64 (k:Nat),.int .i64 (id:Nat),.int .i64 (sd:Nat),.int .i64 (ty:Nat),.int .i64 (q:Nat),.int .i64 (p:Nat),.int .i64 (t:Nat)] 113)
 have HPA:=zl (h.ext hb0)
 obtain ⟨_,x1,_,_,x4,_,_⟩:=zc9 (World.alloc_heap_new w (.cells #[.int .i64 (k:Nat),.int .i64 (id:Nat),.int .i64 (sd:Nat),.int .i64 (ty:Nat),.int .i64 (q:Nat),.int .i64 (p:Nat),.int .i64 (t:Nat)] 113))
 have Hb0:=zl hb0
 have c10:=HPA.o.pm.cells 10 (.pointer (some ⟨b.K,0,none⟩)) rfl
 clear hR h hb0
 unfold cmv
 go_enter Tryz.func117,Tryz.ntmps117
 go_wp2_with fail
 generalize w.alloc (.cells #[.int .i64 (k:Nat),.int .i64 (id:Nat),.int .i64 (sd:Nat),.int .i64 (ty:Nat),.int .i64 (q:Nat),.int .i64 (p:Nat),.int .i64 (t:Nat)] 113)=A at *
 rcases zdp m.all id m.all.length with e|⟨i,e,_,_,_⟩
 .rw[e] at HR
  go_region_held3 (fun w'=>(w'.cell? ⟨P,10,none⟩=some (.pointer (some ⟨b.K,0,none⟩))/\w'.cell? ⟨w.heap.size,1,none⟩=some (.int .i64 (id:Nat)))/\Below w.heap.size w w') (first|assumption|exact⟨⟨c10,x1⟩,Hb0.o.drew⟩) (first|(go_at_call 120;obtain ⟨_,hq2⟩:(_/\Below w.heap.size w _):=(by assumption);refine bFind_none b m m.phase id _ _ (HP.o.ext hq2).pm.book HP.o.pv e ?_;clear hq2))
  have hfin:Hid (R (.returned (.int .i64 (3:Nat))) A.drew):=HR.o _ Hb0.o.drew
  clear HR
  go_wp2_with fail
  exact hfin.o
 .rw[e] at HR
  go_region_held3 (fun w'=>(w'.cell? ⟨P,10,none⟩=some (.pointer (some ⟨b.K,0,none⟩))/\w'.cell? ⟨w.heap.size,1,none⟩=some (.int .i64 (id:Nat)))/\Below w.heap.size w w') (first|assumption|exact⟨⟨c10,x1⟩,Hb0.o.drew⟩) (first|(go_at_call 120;obtain ⟨_,hq2⟩:(_/\Below w.heap.size w _):=(by assumption);refine zgs b m m.phase id i _ _ (HP.o.ext hq2).pm.book HP.o.pv e ?_;clear hq2))
  have x4':A.drew.cell? ⟨w.heap.size,4,none⟩=some (.int .i64 (q:Nat)):=x4
  have hfin0:Hid (R (.returned (.int .i64 ((if q=0 then 4 else 0:Nat):Nat))) A.drew):=by
   have:=HR.o _ Hb0.o.drew
   rw[if_neg (by omega)] at this
   exact this
  clear HR
  by_cases hq0:q=0
  .rw[if_pos hq0] at hfin0
   subst hq0
   go_wp2_with fail
   exact hfin0.out
  .rw[if_neg hq0] at hfin0
   have hq0':((q:Int)==0)=false:=by simp;omega
   go_wp2_with fail
   exact hfin0.out
def zcv (c:Cf) (m:Mk) (k id sd ty q p:Nat):Nat:=
 if k=1 then zbc c m ⟨id,sd,ty,p,q⟩ else if k=2 then (if zas m.all id m.all.length<0 then 3 else 0) else if k=3 then (if zas m.all id m.all.length<0 then 3 else if q=0 then 4 else 0) else 0
theorem preason_any (P:Nat)(b:Bk)(c:Cf)(m:Mk)(s0 k id sd ty q p t:Nat)(w:World)(R:EW)(h:PS w P b c m s0)(hty:k=1->1<=ty/\ty<=4)(hsd:k=1->isSd sd)(hid:id<=4294967295)(hq:q<=4294967295)
  (hR: ∀w',Below w.heap.size w w'->R (.returned (.int .i64 (zcv c m k id sd ty q p:Nat))) w'):
  Calls Tryz.prog 94 #[.pointer (some ⟨P,0,none⟩),cmv k id sd ty q p t] w R:=by
 have HR:=zl hR
 unfold zcv at HR
 have HP:=zl h
 have hlP:=h.ltP
 have hb0:=zac w (.cells #[.int .i64 (k:Nat),.int .i64 (id:Nat),.int .i64 (sd:Nat),.int .i64 (ty:Nat),.int .i64 (q:Nat),.int .i64 (p:Nat),.int .i64 (t:Nat)] 113)
 have HPA:=zl (h.ext hb0)
 have Hb0:=zl hb0
 clear hR h hb0
 unfold cmv
 by_cases h1:k=1
 .simp only[if_pos h1] at HR
  have hty':=hty h1
  have hsd':=hsd h1
  clear hty hsd
  subst h1
  go_enter Tryz.func94,Tryz.ntmps94
  go_wp2_with fail
  refine preasonNew_any P b c m s0 1 id sd ty q p t _ _ HPA.o hty' hsd' hid hq ?_
  intro w2 hb2
  have hfin:Hid (R (.returned (.int .i64 (zbc c m ⟨id,sd,ty,p,q⟩:Nat))) w2):=HR.o w2 (zad Hb0.o hb2)
  clear hb2
  generalize zbc c m ⟨id,sd,ty,p,q⟩=rr at *
  go_wp2_with fail
  exact hfin.o
 .simp only[if_neg h1] at HR
  have h1':((k:Int)==1)=false:=by simp;omega
  clear hty hsd
  by_cases h2:k=2
  .simp only[if_pos h2] at HR
   subst h2
   go_enter Tryz.func94,Tryz.ntmps94
   go_wp2_with fail
   refine zib P b c m s0 2 id sd ty q p t _ _ HPA.o ?_
   intro w2 hb2
   generalize (if zas m.all id m.all.length<0 then 3 else 0:Nat)=rr at *
   have hfin:Hid (R (.returned (.int .i64 (rr:Nat))) w2):=HR.o w2 (zad Hb0.o hb2)
   clear hb2
   go_wp2_with fail
   exact hfin.o
  .simp only[if_neg h2] at HR
   have h2':((k:Int)==2)=false:=by simp;omega
   by_cases h3:k=3
   .simp only[if_pos h3] at HR
    subst h3
    go_enter Tryz.func94,Tryz.ntmps94
    go_wp2_with fail
    refine zia P b c m s0 3 id sd ty q p t _ _ HPA.o ?_
    intro w2 hb2
    generalize (if zas m.all id m.all.length<0 then 3 else if q=0 then 4 else 0:Nat)=rr at *
    have hfin:Hid (R (.returned (.int .i64 (rr:Nat))) w2):=HR.o w2 (zad Hb0.o hb2)
    clear hb2
    go_wp2_with fail
    exact hfin.o
   .simp only[if_neg h3] at HR
    have h3':((k:Int)==3)=false:=by simp;omega
    have hfin:Hid (R (.returned (.int .i64 (0:Nat))) (w.alloc (.cells #[.int .i64 (k:Nat),.int .i64 (id:Nat),.int .i64 (sd:Nat),.int .i64 (ty:Nat),.int .i64 (q:Nat),.int .i64 (p:Nat),.int .i64 (t:Nat)] 113))):=HR.o _ Hb0.o
    go_enter Tryz.func94,Tryz.ntmps94
    go_wp2_with fail
    exact hfin.o
end
