import Derived.Test.YtmiiejinahnpkaaGreatDoorXEaAe
import Derived.Deep.RegionHeld3
import Derived.Deep.DeepCutAuto
set_option maxRecDepth 8000
set_option maxHeartbeats 4000000
namespace Go.Proofs.YtmiiejinahnpkaaGreatDoor
open Go.RowKit
theorem foldl_take {α β:Type}(f:β->α->β)(b:β)(l:List α)(i:Nat)(x:α)(h:l[i]?=some x):(l.take (i+1)).foldl f b=f ((l.take i).foldl f b) x:=by
 rw[zag l i x h,List.foldl_append]
 rfl
theorem filter_take {α:Type}(f:α->Bool)(l:List α)(i:Nat)(x:α)(h:l[i]?=some x):(l.take (i+1)).filter f=(l.take i).filter f++if f x then [x] else []:=by
 rw[zag l i x h,List.filter_append]
 cases hf:f x<;>simp[hf]
theorem mostOf_step (v:Nat->Nat)(L:List Nat)(k X:Nat)(h:L[k]?=some X):zdo v (L.take (k+1))=if zdo v (L.take k)<v X then v X else zdo v (L.take k):=foldl_take _ 0 L k X h
theorem oddOf_step (v g:Nat->Nat)(M:Nat)(L:List Nat)(k X:Nat)(h:L[k]?=some X):zfc v g M (L.take (k+1))=if v X=M/\(zfc v g M (L.take k)<0\/(g X:Int)<zfc v g M (L.take k)) then (g X:Int) else zfc v g M (L.take k):=foldl_take _ (-1) L k X h
theorem leftOf_step (v g:Nat->Nat)(M:Nat)(O:Int)(L:List Nat)(k X:Nat)(h:L[k]?=some X):zcz v g M O (L.take (k+1))=zcz v g M O (L.take k)++if v X=M/\(g X:Int)=O then [X] else []:=by
 have:=filter_take (fun p=>decide (v p=M/\(g p:Int)=O)) L k X h
 simp only[decide_eq_true_eq] at this
 exact this
def zgg (w:World) (v:Value) (L:List Nat):Prop:= ∃a cap,v= .slice a L.length cap/\ ∀(i x:Nat),L[i]?=some x-> ∃g,a=some ⟨g,0,none⟩/\w.cell? ⟨g,i,none⟩=some (.int .i64 x)
variable {L:List Nat} {v:Value} {w:World}
theorem zgg.own {B:Nat}(h:w.ownsRow B 3 1 v L.length (L.map fun x:Nat=> .int .i64 x)):zgg w v L:=by
 rcases h.2 with ⟨h1,h2⟩|⟨g,cap,cur,h1,h2,h3,h4,h5,h6,h7⟩
 .refine⟨none,0,by rw[h1,h2],fun i x hx=>?_⟩
  have:L=[]:=List.eq_nil_of_length_eq_zero h2
  rw[this] at hx
  simp at hx
 .refine⟨_,cap,h1,fun i x hx=>⟨g,rfl,?_⟩⟩
  obtain ⟨g',cap',q1,_,_,_,q5,_⟩:=zee h i (.int .i64 x) (by rw[List.getElem?_map,hx];rfl)
  rw[h1] at q1
  simp only[Value.slice.injEq,Option.some.injEq,Addr.mk.injEq] at q1
  rw[←q1.1.1] at q5
  exact q5
theorem zgg.ext {w':World}(h:zgg w v L)(hb:Below w.heap.size w w'):zgg w' v L:=by
 obtain ⟨a,cap,h1,h2⟩:=h
 exact⟨a,cap,h1,fun i x hx=>by obtain ⟨g,q1,q2⟩:=h2 i x hx;exact⟨g,q1,zaa hb q2⟩⟩
theorem Call_any (B ph ref:Nat)(a:Option Addr)(cap:Nat)(l:List Od)(w:World)(R:EW)(h:RV w B ph ref a cap l)(hn:l.length<=1048576)(hd: ∀s p,dep ph l s p<=1000000000000)(hp: ∀p∈cnd ph ref l,p<=4294967295)
  (hR: ∀w',Below w.heap.size w w'->R (.returned (.tuple #[.int .i64 ((zal ph ref l).1:Nat),.int .i64 ((zal ph ref l).2.1:Nat),.int .i64 (zal ph ref l).2.2])) w'):
  Calls Tryz.prog 175 #[.pointer (some ⟨B,0,none⟩)] w R:=by
 have HR:=zl hR
 have HV:=zl h
 have HD:=zl hd
 have HP:=zl hp
 have hL:=cnd_len ph ref l
 have hL1:0<(cnd ph ref l).length:=by simp[cnd]
 clear hR h hd hp
 go_enter Tryz.func175,Tryz.ntmps175
 go_wp2_with fail
 refine candidates_any B ph ref a cap l _ _ HV.o hn ?_
 intro lv w1 hb1 hown1
 have HB1:=zl hb1
 have HN1:Hid (zgg w1 lv (cnd ph ref l)):=zgg.own hown1
 have HV1:=zl (HV.o.ext hb1)
 clear hb1 hown1 HV
 obtain ⟨L,hLe⟩:=xq (cnd ph ref l)
 rw[←hLe] at hL hL1 HN1 HP
 have HLe:=zl hLe
 clear hLe
 obtain ⟨la,lc,rfl,_⟩:=HN1.o
 go_wp2_with fail
 go_loopw [6,7,8] (fun n i _ wr=> ∃k:Nat,k<=L.length/\i= .int .i64 k/\n= .int .i64 (zdo (vof ph l) (L.take k):Nat)/\Below w1.heap.size w1 wr) (fun _ i _ _=>L.length-(intOf i).toNat)
 case atStart=>exact⟨0,Nat.zero_le _,rfl,rfl,br⟩
 case round=>
  obtain ⟨k,hk,rfl,rfl,hb⟩:=hrel
  have HB:=zl hb
  have HVr:=zl (HV1.o.ext hb)
  have HNr:=zl (HN1.o.ext hb)
  clear hb
  by_cases hkn:k<L.length
  .obtain ⟨X,hX⟩: ∃X,L[k]?=some X:=⟨L[k],by simp[hkn]⟩
   obtain ⟨la',lc',e1,hcl⟩:=HNr.o
   simp only[Value.slice.injEq,true_and] at e1
   obtain ⟨rfl,rfl⟩:=e1
   obtain ⟨g,rfl,c0⟩:=hcl k X hX
   have HM:Hid (zdo (vof ph l) (L.take (k+1))=if zdo (vof ph l) (L.take k)<min (dep ph l 1 X) (dep ph l 2 X) then min (dep ph l 1 X) (dep ph l 2 X) else zdo (vof ph l) (L.take k)):=mostOf_step _ L k X hX
   generalize hm:zdo (vof ph l) (L.take k)=m at *
   have HX:=zl hX
   clear hX hcl
   go_wp2_with fail
   go_region_held3 (fun w'=>w'.cell? ⟨g,k,none⟩=some (.int .i64 (X:Nat))/\Below wr.heap.size wr w') (first|assumption|exact⟨c0,br.drew⟩) (first|(go_at_call 205;obtain ⟨hq1,hq2⟩:(_/\Below wr.heap.size wr _):=(by assumption);refine ze2 B ph ref a cap l _ _ _ _ (HVr.o.ext hq2) (by omega) (HD.o _ _) ?_;intro wq hbq;have hQ:=And.intro (zaa hbq hq1) (zad hq2 hbq);clear hq1 hq2 hbq)|(go_at_call 145;refine zga _ _ _ _ ?_))
   have HBq:Hid (Below w1.heap.size w1 wq):=zad HB.o hQ.2
   clear hQ c0 HNr HVr HB
   have hdx:=HD.o 1 X
   have hdy:=HD.o 2 X
   generalize dep ph l 1 X=d1 at *
   generalize dep ph l 2 X=d2 at *
   by_cases hlt:m<min d1 d2
   .have HM':Hid (zdo (vof ph l) (L.take (k+1))=min d1 d2):=by have:=HM.o;rw[if_pos hlt] at this;exact this
    generalize min d1 d2=v at *
    clear HM hdx hdy
    go_wp2_with fail
    go_roundw
    case rel=>exact⟨k+1,by omega,by go_num,by rw[HM'.o],HBq.o⟩
    case measure=>simp[intOf];omega
   .have HM':Hid (zdo (vof ph l) (L.take (k+1))=m):=by have:=HM.o;rw[if_neg hlt] at this;exact this
    generalize min d1 d2=v at *
    clear HM hdx hdy
    go_wp2_with fail
    go_roundw
    case rel=>exact⟨k+1,by omega,by go_num,by rw[HM'.o],HBq.o⟩
    case measure=>simp[intOf];omega
  .have hk':k=L.length:=by omega
   subst hk'
   rw[List.take_length]
   rw[HLe.o]
   obtain ⟨M,hM⟩:=xq (zcn ph ref l)
   rw[show zdo (vof ph l) (cnd ph ref l)=M from hM.symm]
   rw[←HLe.o]
   have HM:=zl hM
   clear hM
   by_cases hM0:M=0
   .subst hM0
    have hfin:Hid (R (.returned (.tuple #[.int .i64 0,.int .i64 0,.int .i64 0])) wr):=by
     have:=HR.o _ (zad HB1.o HB.o)
     unfold zal at this
     rw[if_pos HM.o.symm] at this
     exact this
    go_wp2_with fail
    go_ret3
    exact hfin.o
   .have f0:((M:Int)==0)=false:=by simp;omega
    have HB2:Hid (Below w.heap.size w wr):=zad HB1.o HB.o
    obtain ⟨w2,hw2⟩:=xq wr
    subst hw2
    go_wp2_with fail
    go_loopw [9,10,11,12] (fun n i _ _ wr=> ∃k:Nat,k<=L.length/\i= .int .i64 k/\n= .int .i64 (zfc (vof ph l) (gof ph l) M (L.take k))/\Below w2.heap.size w2 wr) (fun _ i _ _ _=>L.length-(intOf i).toNat)
    case atStart=>exact⟨0,Nat.zero_le _,rfl,rfl,br⟩
    case round=>
     obtain ⟨k,hk,rfl,rfl,hb⟩:=hrel
     have HBr:=zl hb
     have HVr:Hid (RV wr B ph ref a cap l):=HV1.o.ext (zad HB.o hb)
     have HNr:Hid (zgg wr (.slice la L.length lc) L):=HN1.o.ext (zad HB.o hb)
     clear hb
     by_cases hkn:k<L.length
     .obtain ⟨X,hX⟩: ∃X,L[k]?=some X:=⟨L[k],by simp[hkn]⟩
      obtain ⟨la',lc',e1,hcl⟩:=HNr.o
      simp only[Value.slice.injEq,true_and] at e1
      obtain ⟨rfl,rfl⟩:=e1
      obtain ⟨g,rfl,c0⟩:=hcl k X hX
      have HO:Hid (zfc (vof ph l) (gof ph l) M (L.take (k+1))=if min (dep ph l 1 X) (dep ph l 2 X)=M/\(zfc (vof ph l) (gof ph l) M (L.take k)<0\/(gp (dep ph l 1 X) (dep ph l 2 X):Int)<zfc (vof ph l) (gof ph l) M (L.take k)) then (gp (dep ph l 1 X) (dep ph l 2 X):Int) else zfc (vof ph l) (gof ph l) M (L.take k)):=oddOf_step _ _ M L k X hX
      generalize zfc (vof ph l) (gof ph l) M (L.take k)=o at *
      clear hX hcl HNr
      go_wp2_with fail
      refine ze2 B ph ref a cap l 1 X _ _ HVr.o (by omega) (HD.o _ _) ?_
      intro w3 hb3
      have HV3:=zl (HVr.o.ext hb3)
      have HB3:Hid (Below w2.heap.size w2 w3):=zad HBr.o hb3
      replace c0:=zaa hb3 c0
      clear hb3 HVr HBr
      go_wp2_with fail
      refine ze2 B ph ref a cap l 2 X _ _ HV3.o (by omega) (HD.o _ _) ?_
      intro w4 hb4
      have HB4:Hid (Below w2.heap.size w2 w4):=zad HB3.o hb4
      clear hb4 HV3 c0 HB3
      have hdx:=HD.o 1 X
      have hdy:=HD.o 2 X
      generalize dep ph l 1 X=d1 at *
      generalize dep ph l 2 X=d2 at *
      go_wp2_with fail
      refine zga _ _ _ _ ?_
      by_cases hv:min d1 d2=M
      .rw[hv]
       by_cases ho:o<0
       .have HO':Hid (zfc (vof ph l) (gof ph l) M (L.take (k+1))=(gp d1 d2:Int)):=by have:=HO.o;rw[if_pos ⟨hv,.inl ho⟩] at this;exact this
        clear HO hv
        go_wp2_with fail
        refine zgc d1 d2 _ _ hdx hdy ?_
        go_wp2_with fail
        go_roundw
        case rel=>exact⟨k+1,by omega,by go_num,by rw[HO'.o],HB4.o⟩
        case measure=>simp[intOf];omega
       .by_cases hg:(gp d1 d2:Int)<o
        .have HO':Hid (zfc (vof ph l) (gof ph l) M (L.take (k+1))=(gp d1 d2:Int)):=by have:=HO.o;rw[if_pos ⟨hv,.inr hg⟩] at this;exact this
         clear HO hv
         go_wp2_with fail
         refine zgc d1 d2 _ _ hdx hdy ?_
         go_wp2_with fail
         refine zgc d1 d2 _ _ hdx hdy ?_
         go_wp2_with fail
         go_roundw
         case rel=>exact⟨k+1,by omega,by go_num,by rw[HO'.o],HB4.o⟩
         case measure=>simp[intOf];omega
        .have HO':Hid (zfc (vof ph l) (gof ph l) M (L.take (k+1))=o):=by have:=HO.o;rw[if_neg (fun h=>h.2.elim ho hg)] at this;exact this
         clear HO hv
         go_wp2_with fail
         refine zgc d1 d2 _ _ hdx hdy ?_
         go_wp2_with fail
         go_roundw
         case rel=>exact⟨k+1,by omega,by go_num,by rw[HO'.o],HB4.o⟩
         case measure=>simp[intOf];omega
      .have HO':Hid (zfc (vof ph l) (gof ph l) M (L.take (k+1))=o):=by have:=HO.o;rw[if_neg (fun h=>hv h.1)] at this;exact this
       have fv:(((min d1 d2:Nat):Int)==M)=false:=by simp;omega
       generalize min d1 d2=v at *
       clear HO hv
       go_wp2_with fail
       go_roundw
       case rel=>exact⟨k+1,by omega,by go_num,by rw[HO'.o],HB4.o⟩
       case measure=>simp[intOf];omega
     .have hk':k=L.length:=by omega
      subst hk'
      rw[List.take_length,HLe.o,HM.o]
      obtain ⟨O,hO⟩:=xq (oddAt ph ref l)
      rw[show zfc (vof ph l) (gof ph l) (zcn ph ref l) (cnd ph ref l)=O from hO.symm]
      rw[←HLe.o,←HM.o]
      have HO:=zl hO
      clear hO
      have HB3:Hid (Below w.heap.size w wr):=zad HB2.o HBr.o
      have HBx:Hid (Below w1.heap.size w1 wr):=zad HB.o HBr.o
      have hz3:=HB3.o.size
      obtain ⟨w3,hw3⟩:=xq wr
      subst hw3
      clear HBr
      go_wp2_with fail
      go_loopw [13,14,15,16,17,18] (fun v b s i _ _ wr=> ∃k:Nat,k<=L.length/\i= .int .i64 k/\b= .bool ((zcz (vof ph l) (gof ph l) M O (L.take k)).all (zea ph l))/\s= .bool ((zcz (vof ph l) (gof ph l) M O (L.take k)).all (zc1 ph l))/\Below w3.heap.size w3 wr/\wr.ownsRow w3.heap.size 3 1 v (zcz (vof ph l) (gof ph l) M O (L.take k)).length ((zcz (vof ph l) (gof ph l) M O (L.take k)).map fun x:Nat=> .int .i64 x)) (fun _ _ _ i _ _ _=>L.length-(intOf i).toNat)
      case atStart=>exact⟨0,Nat.zero_le _,rfl,rfl,rfl,br,World.ownsRow_nil _ _ _ _⟩
      case round=>
       obtain ⟨k,hk,rfl,rfl,rfl,hb,hown⟩:=hrel
       have HBr:=zl hb
       have HW:=zl hown
       clear hb hown
       by_cases hkn:k<L.length
       .have HVr:Hid (RV wr B ph ref a cap l):=HV1.o.ext (zad HBx.o HBr.o)
        have HNr:Hid (zgg wr (.slice la L.length lc) L):=HN1.o.ext (zad HBx.o HBr.o)
        obtain ⟨X,hX⟩: ∃X,L[k]?=some X:=⟨L[k],by simp[hkn]⟩
        obtain ⟨la',lc',e1,hcl⟩:=HNr.o
        simp only[Value.slice.injEq,true_and] at e1
        obtain ⟨rfl,rfl⟩:=e1
        obtain ⟨g,rfl,c0⟩:=hcl k X hX
        have HS:Hid (zcz (vof ph l) (gof ph l) M O (L.take (k+1))=zcz (vof ph l) (gof ph l) M O (L.take k)++if min (dep ph l 1 X) (dep ph l 2 X)=M/\(gp (dep ph l 1 X) (dep ph l 2 X):Int)=O then [X] else []):=leftOf_step _ _ M O L k X hX
        have hlen:(zcz (vof ph l) (gof ph l) M O (L.take k)).length<=k:=llt (List.length_filter_le _ _) (by simp;omega)
        generalize zcz (vof ph l) (gof ph l) M O (L.take k)=D at *
        clear hX hcl HNr
        go_wp2_with fail
        refine ze2 B ph ref a cap l 1 X _ _ HVr.o (by omega) (HD.o _ _) ?_
        intro w4 hb4
        have HV4:=zl (HVr.o.ext hb4)
        have HB4:Hid (Below w3.heap.size w3 w4):=zad HBr.o hb4
        have HW4:Hid (w4.ownsRow w3.heap.size 3 1 u13 D.length (D.map fun x:Nat=> .int .i64 x)):=zbe HW.o hb4
        replace c0:=zaa hb4 c0
        clear hb4 HVr HBr HW
        go_wp2_with fail
        refine ze2 B ph ref a cap l 2 X _ _ HV4.o (by omega) (HD.o _ _) ?_
        intro w5 hb5
        have HB5:Hid (Below w3.heap.size w3 w5):=zad HB4.o hb5
        have HW5:Hid (w5.ownsRow w3.heap.size 3 1 u13 D.length (D.map fun x:Nat=> .int .i64 x)):=zbe HW4.o hb5
        replace c0:=zaa hb5 c0
        clear hb5 HV4 HB4 HW4
        have hdx:=HD.o 1 X
        have hdy:=HD.o 2 X
        have HBU:Hid (zea ph l X=decide (dep ph l 2 X<dep ph l 1 X)):=rfl
        have HSE:Hid (zc1 ph l X=decide (dep ph l 1 X<dep ph l 2 X)):=rfl
        generalize dep ph l 1 X=d1 at *
        generalize dep ph l 2 X=d2 at *
        go_wp2_with fail
        refine zga _ _ _ _ ?_
        by_cases hv:min d1 d2=M
        .rw[hv]
         go_wp2_with fail
         refine zgc d1 d2 _ _ hdx hdy ?_
         by_cases hg:(gp d1 d2:Int)=O
         .have HS':Hid (zcz (vof ph l) (gof ph l) M O (L.take (k+1))=D++[X]):=by have:=HS.o;rw[if_pos ⟨hv,hg⟩] at this;exact this
          clear HS hv
          have hz5:=HB5.o.size
          go_wp2_with (at_builtin;go_must (refine za7 w3.heap.size 1 8 D.length _ _ _ HW5.o hz5 Tryz.infoIntR rfl (by decide) rfl ?c2 ?c3 (by decide) _ _ 26 Tryz.underlying26 rfl rfl rfl rfl ?_))
          case c2=>simp[Value.oneCell']
          case c3=>omega
          intro v6 w6 hg6
          have HB6:=zl (HB5.o.grown hg6.grown hz5 fun q hq=>(HW5.o.lt q hq).1)
          have HW6:Hid (w6.ownsRow w3.heap.size 3 1 v6 (D++[X]).length ((D++[X]).map fun x:Nat=> .int .i64 x)):=by
           have:=hg6.own
           rw[List.map_append,List.length_append]
           exact this
          clear hg6
          have hcb:D.all (zea ph l)=true\/D.all (zea ph l)=false:=by cases D.all (zea ph l)<;>simp
          have hcs:D.all (zc1 ph l)=true\/D.all (zc1 ph l)=false:=by cases D.all (zc1 ph l)<;>simp
          rcases hcb with hb1|hb0<;>rcases hcs with hs1|hs0
          .have hbu:D.all (zea ph l)=true:=by first|exact hb1|exact hb0
           have hse:D.all (zc1 ph l)=true:=by first|exact hs1|exact hs0
           rw[hbu,hse]
           go_wp2_with fail
           go_roundw
           case rel=>exact⟨k+1,by omega,by go_num,by rw[HS'.o,List.all_append,hbu];simp[HBU.o],by rw[HS'.o,List.all_append,hse];simp[HSE.o],HB6.o,by rw[HS'.o];exact HW6.o⟩
           case measure=>simp[intOf];omega
          .have hbu:D.all (zea ph l)=true:=by first|exact hb1|exact hb0
           have hse:D.all (zc1 ph l)=false:=by first|exact hs1|exact hs0
           rw[hbu,hse]
           go_wp2_with fail
           go_roundw
           case rel=>exact⟨k+1,by omega,by go_num,by rw[HS'.o,List.all_append,hbu];simp[HBU.o],by rw[HS'.o,List.all_append,hse];simp[HSE.o],HB6.o,by rw[HS'.o];exact HW6.o⟩
           case measure=>simp[intOf];omega
          .have hbu:D.all (zea ph l)=false:=by first|exact hb1|exact hb0
           have hse:D.all (zc1 ph l)=true:=by first|exact hs1|exact hs0
           rw[hbu,hse]
           go_wp2_with fail
           go_roundw
           case rel=>exact⟨k+1,by omega,by go_num,by rw[HS'.o,List.all_append,hbu];simp[HBU.o],by rw[HS'.o,List.all_append,hse];simp[HSE.o],HB6.o,by rw[HS'.o];exact HW6.o⟩
           case measure=>simp[intOf];omega
          .have hbu:D.all (zea ph l)=false:=by first|exact hb1|exact hb0
           have hse:D.all (zc1 ph l)=false:=by first|exact hs1|exact hs0
           rw[hbu,hse]
           go_wp2_with fail
           go_roundw
           case rel=>exact⟨k+1,by omega,by go_num,by rw[HS'.o,List.all_append,hbu];simp[HBU.o],by rw[HS'.o,List.all_append,hse];simp[HSE.o],HB6.o,by rw[HS'.o];exact HW6.o⟩
           case measure=>simp[intOf];omega
         .have HS':Hid (zcz (vof ph l) (gof ph l) M O (L.take (k+1))=D):=by have:=HS.o;rw[if_neg (fun h=>hg h.2)] at this;simpa [Hid] using this
          have fg:((gp d1 d2:Int)==O)=false:=by simp;omega
          clear HS hv
          go_wp2_with fail
          go_roundw
          case rel=>exact⟨k+1,by omega,by go_num,by rw[HS'.o],by rw[HS'.o],HB5.o,by rw[HS'.o];exact HW5.o⟩
          case measure=>simp[intOf];omega
        .have HS':Hid (zcz (vof ph l) (gof ph l) M O (L.take (k+1))=D):=by have:=HS.o;rw[if_neg (fun h=>hv h.1)] at this;simpa [Hid] using this
         have fv:(((min d1 d2:Nat):Int)==M)=false:=by simp;omega
         generalize min d1 d2=v at *
         clear HS hv
         go_wp2_with fail
         go_roundw
         case rel=>exact⟨k+1,by omega,by go_num,by rw[HS'.o],by rw[HS'.o],HB5.o,by rw[HS'.o];exact HW5.o⟩
         case measure=>simp[intOf];omega
       .have hk':k=L.length:=by omega
        subst hk'
        rw[List.take_length] at HW ⊢
        obtain ⟨D,hD⟩:=xq (zcp ph ref l)
        have hLD:zcz (vof ph l) (gof ph l) M O L=D:=by rw[hD,HLe.o,HM.o,HO.o];rfl
        rw[hLD] at HW ⊢
        have hDp:0<D.length:=by rw[hD];exact zjv ph ref l (by rw[←HM.o];exact hM0)
        have hDl:D.length<=L.length:=by rw[←hLD];exact List.length_filter_le _ _
        have HDm:Hid (∀p∈D,p<=4294967295):=fun p hp=>HP.o p (by rw[HLe.o];exact left_sub ph ref l p (by rw[←hD];exact hp))
        have HDe:=zl hD
        have HB4:Hid (Below w.heap.size w wr):=zad HB3.o HBr.o
        have HV4:Hid (RV wr B ph ref a cap l):=HV1.o.ext (zad HBx.o HBr.o)
        have HN4:Hid (zgg wr u13 D):=zgg.own HW.o
        obtain ⟨bu,hbu⟩:=xq (D.all (zea ph l))
        obtain ⟨se,hse⟩:=xq (D.all (zc1 ph l))
        rw[←hbu,←hse]
        have HBU:=zl hbu
        have HSE:=zl hse
        obtain ⟨da,dc,rfl,hcl⟩:=HN4.o
        obtain ⟨p0,hp0⟩: ∃x,D[0]?=some x:=⟨D[0],by simp[hDp]⟩
        obtain ⟨g,rfl,c0⟩:=hcl 0 p0 hp0
        have HP0:Hid (D.headD 0=p0):=by
         cases D with
         |nil=>simp at hDp
         |cons x D=>simp at hp0;exact hp0
        have HM0:Hid (p0∈D):=List.mem_of_getElem? hp0
        clear hD hLD hbu hse hcl hp0 HW HBr HB3 HBx HN1 HV1 HO
        obtain ⟨w4,hw4⟩:=xq wr
        subst hw4
        go_wp2_with fail
        go_loopw [19,20,21,22] (fun p i _ _ wr=> ∃k:Nat,k+1<=D.length/\i= .int .i64 ((k+1:Nat):Int)/\p= .int .i64 (zcb bu se ref p0 (D.tail.take k):Nat)/\Below w4.heap.size w4 wr) (fun _ i _ _ _=>D.length-(intOf i).toNat)
        case atStart=>exact⟨0,by omega,rfl,rfl,br⟩
        case round=>
         obtain ⟨k,hk,rfl,rfl,hb⟩:=hrel
         have HBr:=zl hb
         have HVr:=zl (HV4.o.ext hb)
         have hr:=HVr.o.hr
         have HPm:Hid (zcb bu se ref p0 (D.tail.take k)<=4294967295):=by
          rcases zic bu se ref p0 (D.tail.take k) with h|h
          .rw[h];exact HDm.o _ HM0.o
          .exact HDm.o _ (List.mem_of_mem_tail (List.mem_of_mem_take h))
         by_cases hkn:k+1<D.length
         .obtain ⟨X,hX⟩: ∃X,D[k+1]?=some X:=⟨D[k+1],by simp[hkn]⟩
          obtain ⟨da',dc',e1,hcl⟩:=(HN4.o.ext hb)
          simp only[Value.slice.injEq,true_and] at e1
          obtain ⟨rfl,rfl⟩:=e1
          obtain ⟨g',e2,c0⟩:=hcl (k+1) X hX
          simp only[Option.some.injEq,Addr.mk.injEq,and_true] at e2
          subst e2
          have hXm:X<=4294967295:=HDm.o _ (List.mem_of_getElem? hX)
          have HS:=pickOf_step bu se ref p0 D.tail k X (by rw[List.getElem?_tail];exact hX)
          have hPm:=HPm.o
          generalize zcb bu se ref p0 (D.tail.take k)=P at *
          clear hX hcl hb
          have hrf:ref<=4294967295:=HP.o ref (by rw[HLe.o];simp[cnd])
          go_wp2_with fail
          have hXz:X<=1000000000000:=by omega
          have hPz:P<=1000000000000:=by omega
          have hRz:ref<=1000000000000:=by omega
          have HS':=zl HS
          clear HS
          have HS:=HS'
          clear HS'
          go_cut [22] (fun c wx=>c= .bool (zi6 ref X P)/\Below wr.heap.size wr wx)
          case first=>
           clear HS HR HM HD HP HDm HN4 HV4 HB4 HVr HPm HBr
           by_cases h1:gp X ref<gp P ref
           .have h1':decide (((gp X ref:Nat):Int)<(gp P ref:Nat))=true:=by simp;omega
            go_big_quiet ((go_at_call 206;exact Calls.quiet_of_same (zgc _ _ _ _ (by first|exact hXz|exact hPz) hRz ⟨rfl,rfl⟩)))
            go_wp2_with fail
            go_meet
            exact⟨by simp[zi6,h1],below_drewN br _⟩
           .have h1':decide (((gp X ref:Nat):Int)<(gp P ref:Nat))=false:=by simp;omega
            by_cases h2:gp X ref=gp P ref
            .have h2':(((gp X ref:Nat):Int)==(gp P ref:Nat))=true:=by simp[h2]
             go_big_quiet ((go_at_call 206;exact Calls.quiet_of_same (zgc _ _ _ _ (by first|exact hXz|exact hPz) hRz ⟨rfl,rfl⟩)))
             go_wp2_with fail
             go_meet
             exact⟨by simp[zi6,h2],below_drewN br _⟩
            .have h2':(((gp X ref:Nat):Int)==(gp P ref:Nat))=false:=by simp;omega
             go_big_quiet ((go_at_call 206;exact Calls.quiet_of_same (zgc _ _ _ _ (by first|exact hXz|exact hPz) hRz ⟨rfl,rfl⟩)))
             go_wp2_with fail
             go_meet
             exact⟨by simp[zi6,h1,h2],below_drewN br _⟩
          case rest=>
           obtain ⟨rfl,hbc⟩:=hcut
           have HBq:=zl hbc
           clear hbc
           generalize zi6 ref X P=nv at *
           clear hr c0 hrf hXz hPz hRz
           cases bu with
           |true=>
            cases se with
            |true=>
             rcases Nat.lt_trichotomy P X with hlt|heq|hgt
             .go_wp2_with fail
              exact⟨⟨k+1,by omega,by go_num,by rw[HS.o];simp[hlt],zad HBr.o HBq.o⟩,by simp[intOf];omega⟩
             .subst heq
              go_wp2_with fail
              exact⟨⟨k+1,by omega,by go_num,by rw[HS.o];simp[],zad HBr.o HBq.o⟩,by simp[intOf];omega⟩
             .have hn1: ¬P<X:=by omega
              go_wp2_with fail
              exact⟨⟨k+1,by omega,by go_num,by rw[HS.o];simp[hgt],zad HBr.o HBq.o⟩,by simp[intOf];omega⟩
            |false=>
             by_cases hlt:P<X
             .go_wp2_with fail
              exact⟨⟨k+1,by omega,by go_num,by rw[HS.o];simp[hlt],zad HBr.o HBq.o⟩,by simp[intOf];omega⟩
             .go_wp2_with fail
              exact⟨⟨k+1,by omega,by go_num,by rw[HS.o];simp[hlt],zad HBr.o HBq.o⟩,by simp[intOf];omega⟩
           |false=>
            cases se with
            |true=>
             by_cases hlt:X<P
             .go_wp2_with fail
              exact⟨⟨k+1,by omega,by go_num,by rw[HS.o];simp[hlt],zad HBr.o HBq.o⟩,by simp[intOf];omega⟩
             .go_wp2_with fail
              exact⟨⟨k+1,by omega,by go_num,by rw[HS.o];simp[hlt],zad HBr.o HBq.o⟩,by simp[intOf];omega⟩
            |false=>
             cases nv with
             |true=>
              go_wp2_with fail
              exact⟨⟨k+1,by omega,by go_num,by rw[HS.o];simp[],zad HBr.o HBq.o⟩,by simp[intOf];omega⟩
             |false=>
              go_wp2_with fail
              exact⟨⟨k+1,by omega,by go_num,by rw[HS.o];simp[],zad HBr.o HBq.o⟩,by simp[intOf];omega⟩
         .have hk':k+1=D.length:=by omega
          have hT:D.tail.take k=D.tail:=List.take_of_length_le (by simp;omega)
          rw[hT]
          have HC:Hid (zal ph ref l=(zcb bu se ref p0 D.tail,M,(dep ph l 1 (zcb bu se ref p0 D.tail):Int)-(dep ph l 2 (zcb bu se ref p0 D.tail):Int))):=by
           have hpr:zdf ph ref l=zcb bu se ref p0 D.tail:=by
            unfold zdf
            rw[←HDe.o,←HBU.o,←HSE.o,HP0.o]
           unfold zal
           rw[if_neg (by rw[←HM.o];exact hM0),hpr,←HM.o]
           rfl
          generalize zcb bu se ref p0 D.tail=P at *
          have hd1:=HD.o 1 P
          have hd2:=HD.o 2 P
          have hfin:Hid (∀w',Below wr.heap.size wr w'->R (.returned (.tuple #[.int .i64 (P:Nat),.int .i64 (M:Nat),.int .i64 ((dep ph l 1 P:Int)-(dep ph l 2 P:Int))])) w'):=by
           intro w' hb'
           have:=HR.o w' (zad HB4.o (zad HBr.o hb'))
           rw[HC.o] at this
           exact this
          clear HR HC hr hb HPm
          go_wp2_with fail
          refine ze2 B ph ref a cap l 1 P _ _ HVr.o (by omega) (HD.o _ _) ?_
          intro w5 hb5
          have HV5:=zl (HVr.o.ext hb5)
          go_wp2_with fail
          refine ze2 B ph ref a cap l 2 P _ _ HV5.o (by omega) (HD.o _ _) ?_
          intro w6 hb6
          have hQ:Below wr.heap.size wr w6:=zad hb5 hb6
          clear hb5 hb6
          go_wp2_with fail
          go_ret3
          exact hfin.o _ hQ
