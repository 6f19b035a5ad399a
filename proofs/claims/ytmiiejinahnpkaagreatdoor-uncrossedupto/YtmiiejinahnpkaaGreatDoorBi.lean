import Derived.Test.YtmiiejinahnpkaaGreatDoorXBfAc
import Derived.Deep.RegionHeld3
set_option maxRecDepth 8000
set_option maxHeartbeats 8000000
namespace Go.Proofs.YtmiiejinahnpkaaGreatDoor
open Go.RowKit
attribute [local go_sem↓] Go.wp_at_zero Go.wp_at_succ
theorem zdk (e f:Nat->Int)(V U:Value)(hV:V=evv e)(hU:U=evv f)(w:World)(R:EW)(hR: ∀w',Below w.heap.size w w'->R (.returned (.bool (ze5 e f))) w'):
  Calls Tryz.prog 42 #[V,U] w R:=by
 subst hV
 subst hU
 exact SameEvent_any e f w R hR
theorem put_of (B:Nat)(v:Value)(n:Nat)(xs:List Int)(V U M:Int)(m:Nat)(hM:M=m)(hU:U=V%18446744073709551616)(w:World)(R:EW)
  (hm:m<=8)(hn:n+m<=1073741824)(hB:B<=w.heap.size)
  (hown:w.ownsRow B 5 1 v n (xs.map bv))
  (hR: ∀v' w',Grew B 5 1 w v w' v' (n+m) ((xs++be V m).map bv)->R (.returned v') w'):
  Calls Tryz.prog 102 #[v,.int .u64 U,.int .i64 M] w R:=by
 subst hM
 refine put_any B v n xs U m w R (by omega) (by omega) hm hn hB hown ?_
 rw[hU,be_mod V m hm]
 exact hR
theorem nums_pos (e:Nat->Int)(h:isK (e 0)=true):0<(nums e).length:=by
 rcases zcd (e 0) with h'|h'|h'|h'|h'|h'|h'|h'|h'
 case inr.inr.inr.inr.inr.inr.inr.inr=>rw[h'] at h;cases h
 all_goals simp[nums,layn,h']
theorem zig {w:World}{B:Nat}{e:Nat->Int}{v:Value}(h:w.ownsRow B 3 1 v (nums e).length ((nums e).map iv))(hk:isK (e 0)=true):
  ∃g cap,v= .slice (some ⟨g,0,none⟩) (nums e).length cap/\B<=g/\g<w.heap.size/\ ∀i,i<(nums e).length->w.cell? ⟨g,i,none⟩=some (.int .i64 ((nums e).getD i 0)):=by
 have hp:=nums_pos e hk
 obtain ⟨g,cap,rfl,h2,h3,_,_,_⟩:=zee h 0 (iv ((nums e)[0]'hp)) (by rw[List.getElem?_map,List.getElem?_eq_getElem hp];rfl)
 refine⟨g,cap,rfl,h2,h3,fun i hi=>?_⟩
 obtain ⟨g',cap',h4,_,_,_,h5,_⟩:=zee h i (iv ((nums e)[i]'hi)) (by rw[List.getElem?_map,List.getElem?_eq_getElem hi];rfl)
 simp only[Value.slice.injEq,Option.some.injEq,Addr.mk.injEq] at h4
 rw[←h4.1.1] at h5
 rw[h5]
 simp[iv,hi]
theorem zhl (a:Option Addr)(n c:Nat)(es:Nat->Nat->Int)(w:World)(R:EW)(hn:n<=1048576)(hes:ze1 w a n es)
  (hR1: ∀i w',i<n->(∀q,q<i->fits (es q)=true)->fits (es i)=false->Below w.heap.size w w'->R (.returned (.tuple #[.slice none 0 0,.int .i64 3,.int .i64 i])) w')
  (hR2: ∀v w',(∀q,q<n->fits (es q)=true)->Below w.heap.size w w'->w'.ownsRow w.heap.size 5 1 v (za6 es n).length ((za6 es n).map bv)->R (.returned (.tuple #[v,.int .i64 0,.int .i64 0])) w'):
  Calls Tryz.prog 70 #[.slice a n c] w R:=by
 have HR1:=zl hR1
 have HR2:=zl hR2
 have HE:=zl hes
 clear hR1 hR2 hes
 go_enter Tryz.func70,Tryz.ntmps70
 go_wp2_with fail
 go_loopw [5,6,7,8,9,10,11,12,13] (fun b' i _ _ _ _ _ _ _ wr=> ∃k:Nat,k<=n/\i= .int .i64 k/\(∀q,q<k->fits (es q)=true)/\Grew w.heap.size 5 1 w (.slice none 0 0) wr b' (za6 es k).length ((za6 es k).map bv)) (fun _ i _ _ _ _ _ _ _ _=>n-(intOf i).toNat)
 case atStart=>exact⟨0,Nat.zero_le _,rfl,fun q hq=>absurd hq (by omega),Grew.refl (World.ownsRow_nil _ _ _ _)⟩
 case round=>
  obtain ⟨k,hk,rfl,hq,hG⟩:=hrel
  have hBr:Below w.heap.size w wr:=hG.below nr (fun g hg=>by simp[Value.ownBlock] at hg)
  have HG:=zl hG
  have HQ:=zl hq
  have HB:=zl hBr
  clear hq hG hBr
  by_cases hkn:k<n
  .obtain ⟨b,o,rfl,hc⟩:=HE.o k hkn
   have hc': ∀j,j<10->wr.cell? ⟨b,o+k * 10+j,none⟩=some (.int .i64 (es k j)):=fun j hj=>(HB.o.cell (zab (hc j hj))).trans (hc j hj)
   have c0:=hc' 0 (by decide)
   rw[Nat.add_zero] at c0
   have hzb:=zab c0
   clear hc
   have hE:Ints (wr.alloc (.cells #[.int .i64 (es k 0),.int .i64 (es k 1),.int .i64 (es k 2),.int .i64 (es k 3),.int .i64 (es k 4),.int .i64 (es k 5),.int .i64 (es k 6),.int .i64 (es k 7),.int .i64 (es k 8),.int .i64 (es k 9)] 42)) wr.heap.size 10 (es k):=Ints.new 10 (es k) (zgd (es k))
   have hG1:=HG.o.ext (br.alloc nr (.cells #[.int .i64 (es k 0),.int .i64 (es k 1),.int .i64 (es k 2),.int .i64 (es k 3),.int .i64 (es k 4),.int .i64 (es k 5),.int .i64 (es k 6),.int .i64 (es k 7),.int .i64 (es k 8),.int .i64 (es k 9)] 42))
   have HE1:=zl hE
   have HG1:=zl hG1
   have hs1:wr.heap.size<(wr.alloc (.cells #[.int .i64 (es k 0),.int .i64 (es k 1),.int .i64 (es k 2),.int .i64 (es k 3),.int .i64 (es k 4),.int .i64 (es k 5),.int .i64 (es k 6),.int .i64 (es k 7),.int .i64 (es k 8),.int .i64 (es k 9)] 42)).heap.size:=by simp
   have hu5: ∀g,u5.ownBlock=some g->g<wr.heap.size:=fun g h=>(HG.o.own.lt g h).2
   clear hE hG1
   go_wp2_with fail
   generalize wr.alloc (.cells #[.int .i64 (es k 0),.int .i64 (es k 1),.int .i64 (es k 2),.int .i64 (es k 3),.int .i64 (es k 4),.int .i64 (es k 5),.int .i64 (es k 6),.int .i64 (es k 7),.int .i64 (es k 8),.int .i64 (es k 9)] 42)=W1 at *
   refine zlj (es k) _ (by rfl) _ _ ?_
   intro fv w2 hb2 hf2
   have HE2:=zl (HE1.o.ext hb2)
   have HG2:=zl (HG1.o.ext hb2)
   have HB2:Hid (Below w.heap.size w w2):=HG2.o.below nr (fun g hg=>by simp[Value.ownBlock] at hg)
   have hcE:=HE2.o.cell
   have hz2:=hb2.size
   have HR1':Hid (fits (es k)=false-> ∀w',Below w.heap.size w w'->R (.returned (.tuple #[.slice none 0 0,.int .i64 3,.int .i64 k])) w'):=fun hf w' hb=>HR1.o k w' hkn HQ.o hf hb
   clear hc' c0 hzb hb2
   cases hkK:isK (es k 0) with
   |false=>
    have hfin:=zl (HR1'.o (by simp[fits,hkK]) w2 HB2.o)
    clear hkK hf2
    go_wp2_with fail
    all_goals go_ret3
    all_goals exact hfin.o
   |true=>
    obtain ⟨g,cap,rfl,hg1,hg2,hfc⟩:=zig hf2 hkK
    have hm4:=zju (es k)
    obtain ⟨X,hX⟩: ∃X:Nat->Int,X=fun i=>(nums (es k)).getD i 0:=⟨_,rfl⟩
    obtain ⟨m,hm⟩:=xq ((nums (es k)).length)
    have hfc': ∀i,i<m->w2.cell? ⟨g,i,none⟩=some (.int .i64 (X i)):=by rw[hm,hX];exact hfc
    rw[←hm] at hm4 ⊢
    have HX:=zl hX
    have HM:=zl hm
    have HK:=zl hkK
    clear hX hm hf2 hfc hkK
    by_cases hN1:0<=es k 1/\es k 1<=4294967295
    case neg=>
     have hfin:=zl (HR1'.o (by simp[fits,isN,hN1]) w2 HB2.o)
     clear HR1' HR1 HR2
     rcases (show es k 1<0\/4294967295<es k 1 by omega) with h|h
     all_goals
      clear hN1
      go_wp2_with fail
      all_goals go_ret3
      all_goals exact hfin.o
    case pos=>
     obtain ⟨hN1a,hN1b⟩:=hN1
     have HN1:Hid (isN (es k 1)=true):=by simp[Hid,isN,hN1a,hN1b]
     rcases (show es k 0=6\/es k 0=7\/((es k 0≠6/\es k 0≠7)/\es k 8≠0)\/((es k 0≠6/\es k 0≠7)/\es k 8=0) by omega) with h|h|h|h
     case inr.inr.inl=>
      obtain ⟨⟨h6,h7⟩,h8⟩:=h
      have hfin:=zl (HR1'.o (by rw[zjx];simp[wide,h6,h7,h8]) w2 HB2.o)
      have t6:(es k 0==6)=false:=by simp[h6]
      have t7:(es k 0==7)=false:=by simp[h7]
      have t8:(es k 8 !=0)=true:=by simp[h8]
      clear HR1' HR1 HR2 h6 h7 h8
      go_wp2_with fail
      go_ret3
      exact hfin.o
     case' inl=>have t6:(es k 0==6)=true:=by simp[h]
     case' inl=>have hws:Hid ((wide (es k 0)||es k 8==0)=true):=by simp[Hid,wide,h]
     case' inl=>have HWd:Hid (wide (es k 0)=true):=by simp[Hid,wide,h]
     case' inr.inl=>have HWd:Hid (wide (es k 0)=true):=by simp[Hid,wide,h]
     case' inr.inr.inr=>have HWd:Hid (wide (es k 0)=false):=by simp[Hid,wide,h.1.1,h.1.2]
     case' inr.inl=>have t6:(es k 0==6)=false:=by simp[h]
     case' inr.inl=>have t7:(es k 0==7)=true:=by simp[h]
     case' inr.inl=>have hws:Hid ((wide (es k 0)||es k 8==0)=true):=by simp[Hid,wide,h]
     case' inr.inr.inr=>have t6:(es k 0==6)=false:=by simp[h.1.1]
     case' inr.inr.inr=>have t7:(es k 0==7)=false:=by simp[h.1.2]
     case' inr.inr.inr=>have t8:(es k 8 !=0)=false:=by simp[h.2]
     case' inr.inr.inr=>have hws:Hid ((wide (es k 0)||es k 8==0)=true):=by simp[Hid,h.2]
     all_goals
      clear h
      go_wp2_with fail
      go_loop [11] (fun i=> ∃q:Nat,q<=m/\i= .int .i64 q/\ ∀r,r<q->isN (X r)=true) (fun i=>m-(intOf i).toNat)
      case atStart=>exact⟨0,Nat.zero_le _,rfl,fun r hr=>absurd hr (by omega)⟩
      case round=>
       obtain ⟨q,hq,rfl,hqs⟩:=hrel
       have HQS:=zl hqs
       clear hqs
       by_cases hqm:q<m
       .have hx:=hfc' q hqm
        by_cases hNx:0<=X q/\X q<=4294967295
        .have HQS':Hid (∀r,r<q+1->isN (X r)=true):=by
          intro r hr
          by_cases h:r=q
          .rw[h];simp[isN,hNx]
          .exact HQS.o r (by omega)
         obtain ⟨hNx1,hNx2⟩:=hNx
         clear hfc' HR1 HR2 HR1' HQS
         go_wp2_with fail
         go_round
         case rel=>exact⟨q+1,by omega,by go_num,HQS'.o⟩
         case measure=>simp only[intOf];omega
        .have hff:fits (es k)=false:=by
          rw[zjx,Bool.eq_false_iff]
          intro hh
          simp only[Bool.and_eq_true,List.all_eq_true] at hh
          have hm':=HM.o
          have h1:=hh.1.2 (X q) (by
           rw[HX.o]
           simp only[List.getD_eq_getElem?_getD]
           rw[List.getElem?_eq_getElem (by omega)]
           exact List.getElem_mem _)
          simp only[isN,decide_eq_true_eq] at h1
          exact hNx h1
         have hfin:=zl (HR1'.o hff w2 HB2.o)
         clear hff hfc' HR1 HR2 HR1' HQS
         rcases (show X q<0\/4294967295<X q by omega) with h|h
         all_goals
          clear hNx
          go_wp2_with fail
          all_goals go_ret3
          all_goals exact hfin.o
       .have hq':q=m:=by omega
        subst hq'
        have hall:Hid ((nums (es k)).all isN=true):=by
         show _=true
         rw[List.all_eq_true]
         intro x hx
         obtain ⟨i,hi,he⟩:=List.getElem_of_mem hx
         have hm':=HM.o
         have:=HQS.o i (by omega)
         rw[HX.o] at this
         simp only[List.getD_eq_getElem?_getD,List.getElem?_eq_getElem hi,Option.getD_some,he] at this
         exact this
        have hlay:(layn (es k 0)).length=q:=by have:=HM.o;simpa [nums] using this.symm
        have hx2: ∀i,i<(layn (es k 0)).length-> ∃b o,some (⟨g,0,none⟩:Addr)=some ⟨b,o,none⟩/\w2.cell? ⟨b,o+i,none⟩=some (.int .i64 (X i)):=by
         intro i hi
         exact⟨g,0,rfl,by rw[Nat.zero_add];exact hfc' i (by omega)⟩
        have HX2:=zl hx2
        have HLY:Hid ((layn (es k 0)).length<=q):=by show _<=_;omega
        have HFC:=zl hfc'
        clear hx2 hlay hfc'
        go_wp2_with fail
        go_region_held3 (fun w'=>w'.cell? ⟨wr.heap.size,0,none⟩=some (.int .i64 (es k 0))/\w'.cell? ⟨wr.heap.size,1,none⟩=some (.int .i64 (es k 1))/\w'.cell? ⟨wr.heap.size,2,none⟩=some (.int .i64 (es k 2))/\w'.cell? ⟨wr.heap.size,3,none⟩=some (.int .i64 (es k 3))/\w'.cell? ⟨wr.heap.size,4,none⟩=some (.int .i64 (es k 4))/\w'.cell? ⟨wr.heap.size,5,none⟩=some (.int .i64 (es k 5))/\w'.cell? ⟨wr.heap.size,6,none⟩=some (.int .i64 (es k 6))/\w'.cell? ⟨wr.heap.size,7,none⟩=some (.int .i64 (es k 7))/\w'.cell? ⟨wr.heap.size,8,none⟩=some (.int .i64 (es k 8))/\w'.cell? ⟨wr.heap.size,9,none⟩=some (.int .i64 (es k 9))) (first|go_keep|(refine⟨hc3 0 (by decide),hc3 1 (by decide),hc3 2 (by decide),hc3 3 (by decide),hc3 4 (by decide),hc3 5 (by decide),hc3 6 (by decide),hc3 7 (by decide),hc3 8 (by decide),hc3 9 (by decide)⟩)) (first|(go_at_call 101;refine filled_any _ _ _ _ _ X _ _ _ HK.o HLY.o (by exact HX2.o) ?_;intro w3 hb3;have hc3:=(HE2.o.below (Below.trans (br.drew) hb3) HE2.o.lt).cell)|(go_at_call 42;refine zdk (es k) (refill (es k)) _ _ (by rfl) (by rw[refill,←HX.o]) _ _ ?_;intro w4 hb4;have hc3:=(HE2.o.below (Below.trans (br.drew) (hb3.trans (hb4.mono hb3.size))) HE2.o.lt).cell))
        have hbX:Below w2.heap.size w2 w4:=Below.trans (br.drew) (hb3.trans (hb4.mono hb3.size))
        have HG4:=zl (HG2.o.ext hbX)
        have HB4:Hid (Below w.heap.size w w4):=HG4.o.below nr (fun g hg=>by simp[Value.ownBlock] at hg)
        have HF4:Hid (∀i,i<q->w4.cell? ⟨g,i,none⟩=some (.int .i64 (X i))):=fun i hi=>(hbX.cell hg2).trans (HFC.o i hi)
        have HE4:=zl (HE2.o.ext hbX)
        have hz4:=hbX.size
        clear hb3 hb4 hbX hc3 hcE HFC HX2 HE2 HG2 HB2
        have hcE:=HE4.o.cell
        cases hsm:ze5 (es k) (refill (es k)) with
        |false=>
         have hfin:=zl (HR1'.o (by rw[zjx,hsm];simp) w4 HB4.o)
         clear HR1' HR1 HR2 hsm
         go_wp2_with fail
         go_ret3
         exact hfin.o
        |true=>
         have HF:Hid (fits (es k)=true):=by show _=true;rw[zjx,hsm,HK.o,HN1.o,hws.out,hall.out];rfl
         have hal:=zge es k
         have hB4:w.heap.size<=w4.heap.size:=HB4.o.size
         clear hsm HR1 HR1' hws hall
         go_wp2_with (at_builtin;go_must (refine za7 w.heap.size 1 1 _ _ _ _ HG4.o.own hB4 Tryz.infoU8 rfl (by decide) rfl ?c2 ?c3 (by decide) _ _ 31 Tryz.underlying31 rfl rfl rfl rfl ?_))
         case c2=>rfl
         case c3=>omega
         intro v5 w5 hg5
         have hu4:u5.ownBlock≠some g:=fun h=>by have:=hu5 g h;omega
         have hu4':u5.ownBlock≠some wr.heap.size:=fun h=>by have:=hu5 _ h;omega
         have hg5':Grew w.heap.size 5 1 w4 u5 w5 v5 ((za6 es k++be (es k 0) 1).length) ((za6 es k++be (es k 0) 1).map bv):=hg5.cast (by simp[be]) (by simp[be,bv])
         have HG5:=zl hg5'
         have hcE5:=(HE4.o.grown hg5.grown hu4').cell
         have hz5:=hg5.grown.size
         clear hg5 hg5' hcE
         go_wp2_with fail
         refine put_of w.heap.size v5 _ (za6 es k++be (es k 0) 1) (es k 1) _ _ 4 (by rfl) ?_ _ _ (by decide) ?_ ?_ HG5.o.own ?_
         .omega
         .simp only[List.length_append,zb8];omega
         .omega
         intro v6 w6 hg6
         have hg6':Grew w.heap.size 5 1 w4 u5 w6 v6 ((za6 es k++be (es k 0) 1++be (es k 1) 4).length) ((za6 es k++be (es k 0) 1++be (es k 1) 4).map bv):=(HG5.o.trans hg6).cast (by simp only[List.length_append,zb8]) rfl
         have HG6:=zl hg6'
         have hz6:=hg6.grown.size
         clear hg6 hg6' hcE5
         go_wp2_with fail
         obtain ⟨wa,hwa⟩:=xq wr
         subst hwa
         obtain ⟨ua,hua⟩:=xq u5
         subst hua
         have HQ':Hid (∀p,p<k+1->fits (es p)=true):=by
          intro p hp
          by_cases h:p=k
          .rw[h];exact HF.o
          .exact HQ.o p (by omega)
         have hnl: ∀r,(((nums (es k)).take r).flatMap (fun x=>be x 4)).length<=16:=by
          intro r
          rw[List.length_flatMap]
          have h1:(((nums (es k)).take r).map (fun x=>(be x 4).length)).sum=4 *((nums (es k)).take r).length:=by
           generalize (nums (es k)).take r=l
           induction l with
           |nil=>rfl
           |cons x l ih=>simp only[List.map_cons,List.sum_cons,List.length_cons,zb8] at ih ⊢;omega
          have h2:((nums (es k)).take r).length<=4:=llt (List.length_take_le' _ _) (zju (es k))
          omega
         go_loopw [5,13] (fun b' i wc=> ∃r:Nat,r<=q/\i= .int .i64 r/\Grew w.heap.size 5 1 w4 ua wc b' ((za6 es k++be (es k 0) 1++be (es k 1) 4++((nums (es k)).take r).flatMap (fun x=>be x 4)).length) ((za6 es k++be (es k 0) 1++be (es k 1) 4++((nums (es k)).take r).flatMap (fun x=>be x 4)).map bv)) (fun _ i _=>q-(intOf i).toNat)
         case atStart=>exact⟨0,Nat.zero_le _,rfl,by simpa using HG6.o⟩
         case round=>
          obtain ⟨r,hr,rfl,hG⟩:=hrel
          have hzr:=hG.grown.size
          have hnr:=hnl r
          have HGr:=zl hG
          by_cases hrq:r<q
          .have hxr:wr.cell? ⟨g,r,none⟩=some (.int .i64 (X r)):=(hG.grown.cell_far ⟨g,r,none⟩ (by show g<w4.heap.size;omega) (fun e=>hu4 e.symm)).trans (HF4.o r hrq)
           have hXN:0<=X r/\X r<=4294967295:=by simpa [isN] using HQS.o r hrq
           obtain ⟨hX0,hX1⟩:=hXN
           have HT:Hid ((nums (es k)).take (r+1)=(nums (es k)).take r++[X r]):=by
            show _=_
            refine zag _ _ _ ?_
            have hm':=HM.o
            rw[HX.o]
            simp only[List.getD_eq_getElem?_getD]
            rw[List.getElem?_eq_getElem (by omega)]
            rfl
           clear hG hnl
           go_wp2_with fail
           refine put_of w.heap.size u5 _ _ (X r) _ _ 4 (by rfl) ?_ _ _ (by decide) ?_ ?_ HGr.o.own ?_
           .omega
           .simp only[List.length_append,zb8];omega
           .omega
           intro v7 w7 hg7
           have HG7:Hid (Grew w.heap.size 5 1 w4 ua w7 v7 ((za6 es k++be (es k 0) 1++be (es k 1) 4++((nums (es k)).take (r+1)).flatMap (fun x=>be x 4)).length) ((za6 es k++be (es k 0) 1++be (es k 1) 4++((nums (es k)).take (r+1)).flatMap (fun x=>be x 4)).map bv)):=
            (HGr.o.trans hg7).cast (by rw[HT.o];simp only[List.flatMap_append,List.length_append,List.flatMap_cons,List.flatMap_nil,zb8,List.length_nil];omega) (by rw[HT.o];simp only[List.flatMap_append,List.flatMap_cons,List.flatMap_nil,List.append_nil,List.append_assoc])
           clear hg7 hxr
           go_wp2_with fail
           go_roundw
           case rel=>exact⟨r+1,by omega,by go_num,HG7.o⟩
           case measure=>simp only[intOf];omega
          .have hr':r=q:=by omega
           subst hr'
           have hcr:=(HE4.o.grown hG.grown hu4').cell
           have hbr:=ebytes_ref (es k) HK.o
           rw[show (nums (es k))=(nums (es k)).take r from (List.take_of_length_le (by have:=HM.o;omega)).symm] at hbr
           have HBR:=zl hbr
           clear hG hbr hnl
           go_wp2_with fail
           first
           |(refine put_of w.heap.size u5 _ _ (es k 8) _ _ 8 (by rfl) (IntKind.wrap_u64 _) _ _ (by decide) (by simp only[List.length_append,zb8];omega) (by omega) HGr.o.own ?_
             intro v8 w8 hg8
             have HG8:Hid (Grew w.heap.size 5 1 w (.slice none 0 0) w8 v8 (za6 es (k+1)).length ((za6 es (k+1)).map bv)):=
              (HG4.o.trans (HGr.o.trans hg8)).cast (by rw[zcm,HBR.o,HWd.o];simp only[if_true,List.length_append,zb8];omega) (by rw[zcm,HBR.o,HWd.o];simp only[if_true,List.append_assoc])
             clear hg8 hcr
             go_wp2_with fail
             go_roundw
             case rel=>exact⟨k+1,by omega,by go_num,HQ'.o,HG8.o⟩
             case measure=>simp only[intOf];omega)
           |(have HG8:Hid (Grew w.heap.size 5 1 w (.slice none 0 0) wr u5 (za6 es (k+1)).length ((za6 es (k+1)).map bv)):=
              (HG4.o.trans HGr.o).cast (by rw[zcm,HBR.o,HWd.o];simp only[Bool.false_eq_true,if_false,List.append_nil,List.length_append,zb8];omega) (by rw[zcm,HBR.o,HWd.o];simp only[Bool.false_eq_true,if_false,List.append_nil,List.append_assoc])
             go_roundw
             case rel=>exact⟨k+1,by omega,by go_num,HQ'.o,HG8.o⟩
             case measure=>simp only[intOf];omega)
  .have hk':k=n:=by omega
   subst hk'
   have hfin:=zl (HR2.o u5 wr HQ.o HB.o HG.o.own)
   go_wp2_with fail
   go_ret3
   exact hfin.o
