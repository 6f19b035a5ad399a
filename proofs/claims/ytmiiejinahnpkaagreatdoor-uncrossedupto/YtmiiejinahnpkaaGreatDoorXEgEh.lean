import Derived.Test.YtmiiejinahnpkaaGreatDoorEf
import Derived.Deep.Light
set_option maxRecDepth 8000
set_option maxHeartbeats 2000000
namespace Go.Proofs.YtmiiejinahnpkaaGreatDoor
open Go.RowKit
section
theorem OdAt.of (w:World)(o:Od):Below w.heap.size w (w.alloc (.cells #[.int .i64 o.id,.int .i64 o.side,.int .i64 o.typ,.int .i64 o.price,.int .i64 o.rest] 171)):=zac w _
theorem better_any (B ph ref:Nat)(a:Option Addr)(cap:Nat)(l:List Od)(i k:Nat)(w:World)(R:EW)(h:RV w B ph ref a cap l)(_hn:l.length<=1048576)(hi:i<l.length)(hk:k<l.length)
  (hR: ∀w',Below w.heap.size w w'->R (.returned (.bool (zcy (nth l i) (nth l k) i k))) w'):
  Calls Tryz.prog 177 #[.pointer (some ⟨B,0,none⟩),.int .i64 i,.int .i64 k] w R:=by
 have HR:=zl hR
 obtain ⟨g,rfl,a0,a1,a2,a3,a4⟩:=h.at i hi
 obtain ⟨g',e,b0,b1,b2,b3,b4⟩:=h.at k hk
 simp only[Option.some.injEq,Addr.mk.injEq,and_true] at e
 subst e
 have ha:=h.ha
 generalize nth l i=I at *
 generalize nth l k=J at *
 have hg:=zab a0
 have hB:=zab ha
 have hI:=OdAt.new w I 171
 have hbI:=OdAt.of w I
 have hJ:=OdAt.new (w.alloc (.cells #[.int .i64 I.id,.int .i64 I.side,.int .i64 I.typ,.int .i64 I.price,.int .i64 I.rest] 171)) J 171
 have hbJ:=OdAt.of (w.alloc (.cells #[.int .i64 I.id,.int .i64 I.side,.int .i64 I.typ,.int .i64 I.price,.int .i64 I.rest] 171)) J
 have HI:=zl (hI.ext hbJ)
 have HJ:Hid (OdAt ((w.alloc (.cells #[.int .i64 I.id,.int .i64 I.side,.int .i64 I.typ,.int .i64 I.price,.int .i64 I.rest] 171)).alloc (.cells #[.int .i64 J.id,.int .i64 J.side,.int .i64 J.typ,.int .i64 J.price,.int .i64 J.rest] 171)) (w.heap.size+1) J):=by have:=hJ;simp at this;exact this
 have HB0:Hid (Below w.heap.size w ((w.alloc (.cells #[.int .i64 I.id,.int .i64 I.side,.int .i64 I.typ,.int .i64 I.price,.int .i64 I.rest] 171)).alloc (.cells #[.int .i64 J.id,.int .i64 J.side,.int .i64 J.typ,.int .i64 J.price,.int .i64 J.rest] 171))):=zad hbI hbJ
 clear hR h hI hJ hbI hbJ
 go_enter Tryz.func177,Tryz.ntmps177
 go_wp2_with fail
 generalize (w.alloc (.cells #[.int .i64 I.id,.int .i64 I.side,.int .i64 I.typ,.int .i64 I.price,.int .i64 I.rest] 171)).alloc (.cells #[.int .i64 J.id,.int .i64 J.side,.int .i64 J.typ,.int .i64 J.price,.int .i64 J.rest] 171)=W at *
 clear a0 a1 a2 a3 a4 b0 b1 b2 b3 b4 ha
 refine zfr I _ (by rfl) _ _ ?_
 intro w1 hb1
 have HI1:=zl (HI.o.ext hb1)
 have HJ1:=zl (HJ.o.ext hb1)
 have HB1:Hid (Below w.heap.size w w1):=zad HB0.o hb1
 obtain ⟨j0,j1,j2,j3,j4⟩:=HJ1.o
 clear hb1 HI HJ HB0
 go_wp2_with fail
 refine zfr J _ (by rfl) _ _ ?_
 intro w2 hb2
 have HI2:=zl (HI1.o.ext hb2)
 have HJ2:=zl (HJ1.o.ext hb2)
 have HB2:Hid (Below w.heap.size w w2):=zad HB1.o hb2
 clear j0 j1 j2 j3 j4 hb2 HI1 HJ1 HB1
 have hfin:Hid (R (.returned (.bool (zcy I J i k))) w2):=HR.o _ HB2.o
 clear HR HB2
 unfold zcy at hfin
 have i3:=HI2.o.c3
 have i1:=HI2.o.c1
 have j3:=HJ2.o.c3
 clear HI2 HJ2
 cases hx:pl I<;>cases hy:pl J
 .by_cases hp:I.price=J.price
  .have hf:(((I.price:Nat):Int) !=(J.price:Nat))=false:=by simp[hp]
   go_wp2_with fail
   exact zam hfin.o (by simp[hx,hy,hp])
  .have hf:(((I.price:Nat):Int) !=(J.price:Nat))=true:=by simp;omega
   by_cases hs:I.side=1
   .go_wp2_with fail
    exact zam hfin.o (by simp[hx,hy,hp,hs])
   .have hs':((I.side:Int)==1)=false:=by simp;omega
    go_wp2_with fail
    exact zam hfin.o (by simp[hx,hy,hp,hs])
 .go_wp2_with fail
  exact zam hfin.o (by simp[hx,hy])
 .go_wp2_with fail
  exact zam hfin.o (by simp[hx,hy])
 .go_wp2_with fail
  exact zam hfin.o (by simp[hx,hy])
theorem firstOf_lt (ph:Nat)(l:List Od)(s n:Nat):za0 ph l s n= -1\/ ∃b:Nat,za0 ph l s n=b/\b<n:=by
 induction n with
 |zero=>exact .inl rfl
 |succ n ih=>
  unfold za0
  dsimp only
  split
  .exact .inr ⟨n,rfl,by omega⟩
  .rcases ih with h|⟨b,h,hb⟩
   .exact .inl h
   .exact .inr ⟨b,h,by omega⟩
theorem ze8 (ph:Nat)(l:List Od)(s n:Nat):za0 ph l s (n+1)=if bk ph (nth l n)&&((nth l n).side==s&&(decide (za0 ph l s n<0)||zcy (nth l n) (nth l (za0 ph l s n).toNat) n (za0 ph l s n).toNat)) then (n:Int) else za0 ph l s n:=rfl
theorem zkw (B ph ref:Nat)(a:Option Addr)(cap:Nat)(l:List Od)(s:Nat)(w:World)(R:EW)(h:RV w B ph ref a cap l)(hn:l.length<=1048576)
  (hR: ∀w',Below w.heap.size w w'->R (.returned (.int .i64 (za0 ph l s l.length))) w'):
  Calls Tryz.prog 142 #[.pointer (some ⟨B,0,none⟩),.int .i64 s] w R:=by
 have HR:=zl hR
 have HV:=zl h
 clear hR h
 go_enter Tryz.func142,Tryz.ntmps142
 go_wp2_with fail
 go_loopw [5,6,7] (fun b i _ wr=> ∃k:Nat,k<=l.length/\i= .int .i64 k/\b= .int .i64 (za0 ph l s k)/\Below w.heap.size w wr) (fun _ i _ _=>l.length-(intOf i).toNat)
 case atStart=>exact⟨0,Nat.zero_le _,rfl,rfl,br⟩
 case round=>
  obtain ⟨k,hk,rfl,rfl,hb⟩:=hrel
  have HB:=zl hb
  have HVr:=zl (HV.o.ext hb)
  have ha:=HVr.o.ha
  clear hb
  by_cases hkn:k<l.length
  .obtain ⟨g,rfl,c0,c1,c2,c3,c4⟩:=HVr.o.at k hkn
   have HS:=ze8 ph l s k
   have hF:=firstOf_lt ph l s k
   generalize za0 ph l s k=b at *
   obtain ⟨O,hO⟩: ∃O,nth l k=O:=⟨_,rfl⟩
   rw[hO] at c0 c1 c2 c3 c4 HS
   have HO:=zl hO
   have HS':=zl HS
   clear hO HS
   go_wp2_with fail
   refine zlb O _ (by rfl) B ph _ _ HVr.o.hp ?_
   intro w1 hb1
   have HV1:=zl (HVr.o.ext hb1)
   have HB1:Hid (Below w.heap.size w w1):=zad HB.o hb1
   have ha1:=HV1.o.ha
   replace c1:=zaa hb1 c1
   clear hb1 ha c0 c2 c3 c4 HVr HB
   cases h1:bk ph O with
   |false=>
    have HE:Hid (za0 ph l s (k+1)=b):=by have:=HS'.o;simp[h1] at this;exact this
    go_wp2_with fail
    go_roundw
    case rel=>exact⟨k+1,by omega,by go_num,by rw[HE.o],HB1.o⟩
    case measure=>simp[intOf];omega
   |true=>
    by_cases h2:O.side=s
    .have f2:((O.side:Int)==s)=true:=by simp[h2]
     rcases hF with rfl|⟨b',rfl,hb'⟩
     .have HE:Hid (za0 ph l s (k+1)=k):=by have:=HS'.o;simp[h1,h2] at this;exact this
      go_wp2_with fail
      go_roundw
      case rel=>exact⟨k+1,by omega,by go_num,by rw[HE.o],HB1.o⟩
      case measure=>simp[intOf];omega
     .have HE:Hid (za0 ph l s (k+1)=if zcy O (nth l b') k b' then (k:Int) else (b':Int)):=by
       have:=HS'.o
       rw[h1,show (O.side==s)=true from by simp[h2],show decide ((b':Int)<0)=false from by simp] at this
       simpa [Hid] using this
      have hz: ¬(b':Int)<0:=by omega
      go_wp2_with fail
      refine better_any B ph ref _ cap l k b' _ _ HV1.o hn hkn (by omega) ?_
      rw[HO.o]
      intro w2 hb2
      have HB2:Hid (Below w.heap.size w w2):=zad HB1.o hb2
      clear hb2 HV1 c1 ha1 HB1
      cases h4:zcy O (nth l b') k b' with
      |true=>
       rw[h4] at HE
       go_wp2_with fail
       go_roundw
       case rel=>exact⟨k+1,by omega,by go_num,by rw[HE.o];rfl,HB2.o⟩
       case measure=>simp[intOf];omega
      |false=>
       rw[h4] at HE
       go_wp2_with fail
       go_roundw
       case rel=>exact⟨k+1,by omega,by go_num,by rw[HE.o];rfl,HB2.o⟩
       case measure=>simp[intOf];omega
    .have HE:Hid (za0 ph l s (k+1)=b):=by have:=HS'.o;simp[h2] at this;exact this
     have f2:((O.side:Int)==s)=false:=by simp;omega
     clear hF
     go_wp2_with fail
     go_roundw
     case rel=>exact⟨k+1,by omega,by go_num,by rw[HE.o],HB1.o⟩
     case measure=>simp[intOf];omega
  .have hk':k=l.length:=by omega
   subst hk'
   have hfin:Hid (R (.returned (.int .i64 (za0 ph l s l.length))) wr):=HR.o _ HB.o
   go_wp2_with fail
   exact hfin.o
end
section
theorem nat_beq (a b:Nat):((a:Int)==(b:Int))=(a==b):=by
 by_cases h:a=b
 .simp[h]
 .have: ¬(a:Int)=b:=by omega
  rw[beq_eq_false_iff_ne.2 this,beq_eq_false_iff_ne.2 h]
def zew (l:List Od) (id:Nat):Bool:=l.any fun a=>a.id==id
def zap (l:List Od):Nat:=(l.filter fun a=>decide (0<a.rest)).length
def zba (l:List Od) (s:Nat):Nat:=((l.filter fun a=>a.side==s).map Od.rest).sum
theorem knownIn_take (l:List Od)(id k:Nat)(h:k<l.length):zew (l.take (k+1)) id=(zew (l.take k) id||(nth l k).id==id):=by
 rw[zag l k (nth l k) (by simp[nth,h])]
 simp[zew]
theorem liveIn_take (l:List Od)(k:Nat)(h:k<l.length):zap (l.take (k+1))=zap (l.take k)+if 0<(nth l k).rest then 1 else 0:=by
 rw[zag l k (nth l k) (by simp[nth,h])]
 unfold zap
 rw[List.filter_append,List.length_append]
 congr 1
 by_cases hc:0<(nth l k).rest<;>simp[hc]
theorem sumIn_take (l:List Od)(s k:Nat)(h:k<l.length):zba (l.take (k+1)) s=zba (l.take k) s+if (nth l k).side=s then (nth l k).rest else 0:=by
 rw[zag l k (nth l k) (by simp[nth,h])]
 unfold zba
 rw[List.filter_append,List.map_append,List.sum_append]
 congr 1
 by_cases hc:(nth l k).side=s<;>simp[hc]
theorem sumIn_le (l:List Od)(s k:Nat):zba (l.take k) s<=zba l s:=by
 conv=>rhs;rw[←List.take_append_drop k l]
 unfold zba
 rw[List.filter_append,List.map_append,List.sum_append]
 exact Nat.le_add_right _ _
theorem liveIn_le (l:List Od):zap l<=l.length:=List.length_filter_le _ _
theorem refused_any (B:Nat)(c:Cf)(m:Mk)(vA vO:Value)(o:Od)(w:World)(R:EW)(h:RM w B c m vA vO)(hn:m.all.length<=1048576)(hsum:zba m.all o.side<=4294967295)(hor:o.rest<=4294967295)
  (hR: ∀w',Below w.heap.size w w'->R (.returned (.int .i64 (zbc c m o:Nat))) w'):
  Calls Tryz.prog 139 #[.pointer (some ⟨B,0,none⟩),odv o] w R:=by
 have HR:=zl hR
 have HM:=zl h
 obtain ⟨a,cap,hv,rfl⟩:=h.rv
 have HV:=zl hv
 have hO:=OdAt.new w o 171
 have hb0:=OdAt.of w o
 have HO:=zl hO
 have HB0:=zl hb0
 clear hR h hv hO hb0
 unfold odv
 go_enter Tryz.func139,Tryz.ntmps139
 go_wp2_with fail
 generalize w.alloc (.cells #[.int .i64 o.id,.int .i64 o.side,.int .i64 o.typ,.int .i64 o.price,.int .i64 o.rest] 171)=W at *
 go_loopw [5,6,7,8] (fun kn lv tt i wr=> ∃k:Nat,k<=m.all.length/\i= .int .i64 k/\kn= .bool (zew (m.all.take k) o.id)/\lv= .int .i64 (zap (m.all.take k):Nat)/\tt= .int .i64 ((o.rest+zba (m.all.take k) o.side:Nat):Int)/\Below W.heap.size W wr) (fun _ _ _ i _=>m.all.length-(intOf i).toNat)
 case atStart=>exact⟨0,Nat.zero_le _,rfl,rfl,rfl,rfl,br⟩
 case round=>
  obtain ⟨k,hk,rfl,rfl,rfl,rfl,hb⟩:=hrel
  have HB:=zl hb
  have HVr:Hid (RV wr B m.phase m.ref a cap m.all):=HV.o.ext (zad HB0.o hb)
  have HOr:=zl (HO.o.ext hb)
  have ha:=HVr.o.ha
  obtain ⟨q0,q1,q2,q3,q4⟩:=HOr.o
  clear hb
  by_cases hkn:k<m.all.length
  .obtain ⟨g,rfl,c0,c1,c2,c3,c4⟩:=HVr.o.at k hkn
   have HK:Hid (zew (m.all.take (k+1)) o.id=(zew (m.all.take k) o.id||(nth m.all k).id==o.id)):=knownIn_take _ _ _ hkn
   have HL:Hid (zap (m.all.take (k+1))=zap (m.all.take k)+if 0<(nth m.all k).rest then 1 else 0):=liveIn_take _ _ hkn
   have HT:Hid (zba (m.all.take (k+1)) o.side=zba (m.all.take k) o.side+if (nth m.all k).side=o.side then (nth m.all k).rest else 0):=sumIn_take _ _ _ hkn
   have hs1:=sumIn_le m.all o.side (k+1)
   have hl1:zap (m.all.take k)<=1048576:=llt (liveIn_le _) (by simp;omega)
   have hs0:=sumIn_le m.all o.side k
   generalize zew (m.all.take k) o.id=kn at *
   generalize zap (m.all.take k)=lv at *
   generalize zba (m.all.take k) o.side=sm at *
   generalize nth m.all k=O at *
   go_wp2_with fail
   go_cut [5] (fun kk wx=>kk= .bool (kn||O.id==o.id)/\Below wr.heap.size wr wx)
   case first=>
    clear HK HL HT HR HM HV HVr HB HOr HO HB0
    cases kn with
    |true=>
     go_quiet (fail)
     go_wp2_with fail
     go_meet
     exact⟨rfl,below_drewN br _⟩
    |false=>
     go_quiet (fail)
     go_wp2_with fail
     go_meet
     exact⟨by simp[nat_beq],below_drewN br _⟩
   case rest=>
    obtain ⟨rfl,hbc⟩:=hcut
    have HBc:Hid (Below W.heap.size W wc):=zad HB.o hbc
    replace c1:=zaa hbc c1
    replace c4:=zaa hbc c4
    replace q1:=zaa hbc q1
    replace ha:=zaa hbc ha
    clear hbc c0 c2 c3 q0 q2 q3 q4 HV HVr HB HOr
    generalize (kn||O.id==o.id)=kk at *
    have hs2:=HT.o
    by_cases hr:0<O.rest
    .rw[if_pos hr] at HL
     have hr':(0:Int)<O.rest:=by omega
     by_cases hsd:O.side=o.side
     .rw[if_pos hsd] at HT hs2
      have f1:((O.side:Int)==o.side)=true:=by simp[hsd]
      have hs3:sm+O.rest<=zba m.all o.side:=by omega
      clear hs2 hs1
      go_wp2_with fail
      go_quiet (fail)
      go_wp2_with fail
      exact⟨⟨k+1,by omega,by go_num,by rw[HK.o],by rw[HL.o];go_num,by rw[HT.o];go_num,below_drewN HBc.o _⟩,by simp[intOf];omega⟩
     .rw[if_neg hsd] at HT hs2
      have f1:((O.side:Int)==o.side)=false:=by simp;omega
      clear hs2
      go_wp2_with fail
      go_quiet (fail)
      go_wp2_with fail
      exact⟨⟨k+1,by omega,by go_num,by rw[HK.o],by rw[HL.o];go_num,by rw[HT.o];go_num,below_drewN HBc.o _⟩,by simp[intOf];omega⟩
    .rw[if_neg hr] at HL
     have hr': ¬(0:Int)<O.rest:=by omega
     by_cases hsd:O.side=o.side
     .rw[if_pos hsd] at HT hs2
      have f1:((O.side:Int)==o.side)=true:=by simp[hsd]
      have hs3:sm+O.rest<=zba m.all o.side:=by omega
      clear hs2 hs1
      go_wp2_with fail
      go_quiet (fail)
      go_wp2_with fail
      exact⟨⟨k+1,by omega,by go_num,by rw[HK.o],by rw[HL.o];go_num,by rw[HT.o];go_num,below_drewN HBc.o _⟩,by simp[intOf];omega⟩
     .rw[if_neg hsd] at HT hs2
      have f1:((O.side:Int)==o.side)=false:=by simp;omega
      clear hs2
      go_wp2_with fail
      go_quiet (fail)
      go_wp2_with fail
      exact⟨⟨k+1,by omega,by go_num,by rw[HK.o],by rw[HL.o];go_num,by rw[HT.o];go_num,below_drewN HBc.o _⟩,by simp[intOf];omega⟩
  .have hk':k=m.all.length:=by omega
   subst hk'
   rw[List.take_length]
   have HD:Hid (zbc c m o=if zew m.all o.id then 2 else if o.rest=0 then 4 else if (pl o&&o.price !=0)||(!pl o&&(o.price==0||decide (1000000<o.price))) then 5 else if m.phase=3\/(o.typ=3/\m.phase≠0) then 6 else if c.orders<=zap m.all then 7 else if c.total<o.rest+zba m.all o.side then 8 else 0):=rfl
   generalize zew m.all o.id=kn at *
   generalize zap m.all=lv at *
   generalize zba m.all o.side=sm at *
   go_wp2_with fail
   refine zfr o _ (by rfl) _ _ ?_
   intro w5 hb5
   have hBl:Below w.heap.size w w5:=zad HB0.o (zad HB.o hb5)
   have hfin:Hid (∀w',Below w5.heap.size w5 w'->R (.returned (.int .i64 (zbc c m o:Nat))) w'):=fun w' hb'=>HR.o w' (zad hBl hb')
   have hM5:=HM.o.ext hBl
   have p4:=hM5.cells 4 _ rfl
   have p5:=hM5.cells 5 _ rfl
   have p6:=hM5.cells 6 _ rfl
   replace q2:=zaa hb5 q2
   replace q3:=zaa hb5 q3
   replace q4:=zaa hb5 q4
   rw[HD.o] at hfin
   clear hb5 hBl hM5 HR HD HM HV HVr HB HOr HO HB0 q0 q1 ha
   cases kn with
   |true=>
    rw[if_pos rfl] at hfin
    go_wp2_with fail
    exact hfin.o _ br
   |false=>
    rw[if_neg (by simp)] at hfin
    by_cases h0:o.rest=0
    .rw[if_pos h0] at hfin
     have f0:((o.rest:Int)==0)=true:=by simp[h0]
     go_wp2_with fail
     exact hfin.o _ br
    .rw[if_neg h0] at hfin
     have f0:((o.rest:Int)==0)=false:=by simp;omega
     go_wp2_with fail
     all_goals
      refine zci (hfin.o _ br) ?_
      clear hfin p4 p5 p6 q2 q3 q4 f0
      go_light
      show Value.int IntKind.i64 _=Value.int IntKind.i64 _
      congr 1
      clear hk hkn
      (repeat' split)<;>first|rfl|(exfalso;simp_all;done)|(exfalso;simp_all;omega)
end
