import Derived.Test.YtmiiejinahnpkaaGreatDoorNd
set_option maxRecDepth 8000
set_option maxHeartbeats 4000000
namespace Go.Proofs.YtmiiejinahnpkaaGreatDoor
open Go.RowKit
theorem kSameEvent_any (e:Nat->Int)(w:World)(R:EW)(hR: ∀w',Below w.heap.size w w'->R (.returned (.bool true)) w'):
  Calls Tryz.prog 20 #[evv e,evv e] w R:=by
 have HR:=zl hR
 clear hR
 unfold evv
 go_enter Tryz.func20,Tryz.ntmps20
 go_wp2
 exact HR.o _ ((br.alloc nr _).alloc (by simp) _)
variable {n:Nat} {X:Nat->Int} {es:Nat->Nat->Int}
theorem read_lies (hf: ∀q,q<n->fits (es q)=true)(h8: ∀q,-9223372036854775808<=es q 8/\es q 8<=9223372036854775807)(h:LiesAt X 0 (za6 es n)){i:Nat}(hi: ∀q,q<i->good X (za6 es n).length q):
  (∀k,pos X i<(za6 es n).length->isK (X (pos X i))=k->(k=false\/(za6 es n).length<pos X i+elen (X (pos X i)))->False)/\(pos X i=(za6 es n).length->i=n):=by
 obtain ⟨hp,hg⟩:=lies_good es X n hf h8 h
 have hne: ¬good X (za6 es n).length n:=fun hh=>by have:=hh.1;omega
 refine⟨fun k hlt hk hor=>?_,fun he=>?_⟩
 .have hni: ¬good X (za6 es n).length i:=fun hh=>by
   rcases hor with rfl|hor
   .have:=hh.2.1;rw[hk] at this;cases this
   .have:=hh.2.2;omega
  have:=first_unique _ _ i n hi (fun q hq=>(hg q hq).1) hni hne
  subst this
  omega
 .exact first_unique _ _ i n hi (fun q hq=>(hg q hq).1) (fun hh=>by have:=hh.1;omega) hne
theorem read_short (hf: ∀q,q<n->fits (es q)=true)(h8: ∀q,-9223372036854775808<=es q 8/\es q 8<=9223372036854775807)(h:LiesAt X 0 (za6 es n))(hn:0<n){i:Nat}(hi: ∀q,q<i->good X ((za6 es n).length-1) q):
  (pos X i<(za6 es n).length-1->isK (X (pos X i))=false->False)/\(pos X i=(za6 es n).length-1->False):=by
 obtain ⟨h1,h2,h3,h4⟩:=lies_short es X n hf h8 h hn
 have hne: ¬good X ((za6 es n).length-1) (n-1):=fun hh=>by have:=hh.2.2;omega
 refine⟨fun _ hk=>?_,fun he=>?_⟩
 .have:=first_unique _ _ i (n-1) hi h1 (fun hh=>by have:=hh.2.1;rw[hk] at this;cases this) hne
  subst this
  rw[hk] at h3
  cases h3
 .have:=first_unique _ _ i (n-1) hi h1 (fun hh=>by have:=hh.1;omega) hne
  subst this
  omega
theorem zio (X:Nat->Int)(m:Nat):(zbp X m).length=m * 10:=by
 induction m with
 |zero=>rfl
 |succ m ih=>rw[zck,List.length_append,ih];simp;omega
theorem evsAt_dcells {w:World}{B:Nat}{a:Option Addr}{c:Nat}(h:w.ownsRow B 42 10 (.slice a n c) n (zbp X n)):ze1 w a n (fun q=>dev X (pos X q)):=by
 intro i hi
 have hx: ∀j,j<10->(zbp X n)[i * 10+j]?=some (iv (dev X (pos X i) j)):=by
  intro j hj
  have key: ∀(m i:Nat),i<m->(zbp X m)[i * 10+j]?=some (iv (dev X (pos X i) j)):=by
   intro m
   induction m with
   |zero=>intro i hi;omega
   |succ m ih=>
    intro i hi
    have hl:=zio X m
    rw[zck]
    by_cases him:i<m
    .rw[List.getElem?_append_left (by rw[hl];omega)]
     exact ih i him
    .obtain rfl:i=m:=by omega
     rw[List.getElem?_append_right (by rw[hl];omega),hl,show i * 10+j-i * 10=j by omega]
     simp[hj]
  exact key n i hi
 obtain ⟨g,cap,e,-⟩:=own_cellsK h _ _ (hx 0 (by decide))
 injection e with e1
 refine⟨g,0,e1,fun j hj=>?_⟩
 obtain ⟨g',cap',e',-,-,-,hc,-⟩:=own_cellsK h _ _ (hx j hj)
 injection e' with e2
 rw[e1] at e2
 injection e2 with e2
 injection e2 with e2
 subst e2
 rw[Nat.zero_add]
 exact hc
theorem dev_range (X:Nat->Int)(p N:Nat)(hb: ∀i,i<N->0<=X i/\X i<=255)(hk:isK (X p)=true)(hp:p+elen (X p)<=N): ∀j,-9223372036854775808<=dev X p j/\dev X p j<=9223372036854775807:=by
 intro j
 obtain ⟨hf,-⟩:=fits_dev X p N hb hk hp
 simp only[fits,Bool.and_eq_true,List.all_eq_true,Bool.or_eq_true,beq_iff_eq,isK_iff,isN_iff] at hf
 obtain ⟨⟨⟨h0,h1⟩,h2⟩,-⟩:=hf
 by_cases j0:j=0
 .subst j0;omega
 by_cases j1:j=1
 .subst j1;omega
 by_cases hc:(lay (X p)).contains (j-2)=true
 .have hm:j-2∈lay (X p):=by simpa using hc
  by_cases h6:j-2=6
  .simp only[dev,if_neg j0,if_neg j1,dval,if_pos hc,if_pos h6,IntKind.wrap_i64]
   omega
  .rcases h2 (j-2) (by simpa [dev] using hm) with e|e
   .exact absurd e h6
   .rw[show j-2+2=j by omega] at e
    omega
 .simp only[dev,if_neg j0,if_neg j1,dval,if_neg hc]
  omega
theorem allbytes_byte (es:Nat->Nat->Int)(n:Nat): ∀i,i<(za6 es n).length->0<=byteAt (za6 es n) i/\byteAt (za6 es n) i<=255:=by
 have hb: ∀V n,∀x∈be V n,0<=x/\x<=255:=by
  intro V n
  induction n with
  |zero=>intro x hx;simp[be] at hx
  |succ n ih=>
   intro x hx
   simp only[be,List.mem_cons] at hx
   rcases hx with rfl|hx
   .omega
   .exact ih x hx
 have he: ∀x∈za6 es n,0<=x/\x<=255:=by
  intro x hx
  obtain ⟨q,_,hx⟩:=List.mem_flatMap.1 hx
  simp only[zdr,List.mem_append,List.mem_flatMap] at hx
  rcases hx with (hx|hx)|⟨f,_,hx⟩
  .exact hb _ _ x hx
  .exact hb _ _ x hx
  .exact hb _ _ x hx
 intro i hi
 have:=he (za6 es n)[i] (List.getElem_mem hi)
 simpa [byteAt,List.getD,hi] using this
def devs (X:Nat->Int) (k q:Nat):Nat->Int:=if q<k then dev X (pos X q) else fun _=>0
theorem devs_bytes (X:Nat->Int)(N k:Nat)(hb: ∀i,i<N->0<=X i/\X i<=255)(h: ∀q,q<k->good X N q):
  (∀q,q<k->fits (devs X k q)=true)/\(∀q j,-9223372036854775808<=devs X k q j/\devs X k q j<=9223372036854775807)/\za6 (devs X k) k=(List.range (pos X k)).map X:=by
 obtain ⟨h1,h2⟩:=told_again X N k hb h
 refine⟨fun q hq=>by rw[devs,if_pos hq];exact h1 q hq,fun q j=>?_,?_⟩
 .unfold devs
  split
  .exact dev_range X _ N hb (h q ‹_›).2.1 (h q ‹_›).2.2 j
  .show-9223372036854775808<=(0:Int)/\(0:Int)<=9223372036854775807
   decide
 .rw[←h2]
  unfold za6
  rw[List.flatMap_def,List.flatMap_def]
  congr 1
  apply List.map_congr_left
  intro q hq
  rw[devs,if_pos (by simpa using hq)]
theorem Codes_any (a1:Option Addr)(n c1:Nat)(es:Nat->Nat->Int)(a2:Option Addr)(N c2:Nat)(X:Nat->Int)(w:World)(R:EW)(hL:zcq w)(hn:n<=100000)(hes:ze1 w a1 n es)
  (hr: ∀i j,-9223372036854775808<=es i j/\es i j<=9223372036854775807)(hN:N<=1048576)(hcap:N<=c2)(hx:BsAt w a2 N X)(hb: ∀i,i<N->0<=X i/\X i<=255)
  (hR: ∀w',Below w.heap.size w w'->R (.returned (.bool true)) w'):Calls Tryz.prog 6 #[.slice a1 n c1,.slice a2 N c2] w R:=by
 have HR:=zl hR
 have HL:=zl hL
 have HE:=zl hes
 have Hr:=zl hr
 have HX:=zl hx
 have HB:=zl hb
 clear hR hL hes hr hx hb
 go_enter Tryz.func6,Tryz.ntmps6
 go_wp2_with fail
 refine kSure_any w _ HL.o ?_
 intro w1 hb1
 have HB1:=zl hb1
 clear hb1
 go_wp2_with fail
 refine Encode_any a1 n c1 es w1 _ (zcq.below HL.o HB1.o nr) (by omega) (HE.o.below HB1.o nr) Hr.o ?_ ?_
 .intro i w2 hi _ _ hb2
  have HB2:Hid (Below w.heap.size w w2):=HB1.o.trans (hb2.mono HB1.o.size)
  clear hb2
  have hi0:(0:Int)<=(i:Int):=by omega
  have hi1:(i:Int)<(n:Int):=by omega
  go_wp2_with fail
  clear hi0 hi1
  refine Decode_any a2 N c2 X w2 _ (zcq.below HL.o HB2.o nr) (by omega) hcap (HX.o.below HB2.o nr) HB.o ?_ ?_ ?_
  .intro k w5 _ hp _ hb5
   have hfin:Hid (R (.returned (.bool true)) w5):=HR.o w5 (HB2.o.trans (hb5.mono HB2.o.size))
   clear hb5
   generalize pos X k=pk at *
   have hp0:(0:Int)<=(pk:Int):=by omega
   have hp1:(pk:Int)<(N:Int):=by omega
   go_wp2_with fail
   exact hfin.o
  .intro k w5 _ hp _ _ hb5
   have hfin:Hid (R (.returned (.bool true)) w5):=HR.o w5 (HB2.o.trans (hb5.mono HB2.o.size))
   clear hb5
   generalize pos X k=pk at *
   have hp0:(0:Int)<=(pk:Int):=by omega
   have hp1:(pk:Int)<(N:Int):=by omega
   go_wp2_with fail
   exact hfin.o
  .intro k v5 w5 hg hp hb5 hv5
   obtain ⟨a5,c5,e5⟩:=zar hv5
   subst e5
   have hkN:=pos_ge X N k hg
   obtain ⟨f1,f2,f3⟩:=devs_bytes X N k HB.o hg
   have HF:Hid ((∀q,q<k->fits (devs X k q)=true)/\(∀q j,-9223372036854775808<=devs X k q j/\devs X k q j<=9223372036854775807)/\za6 (devs X k) k=(List.range N).map X):=⟨f1,f2,by rw[f3,hp]⟩
   have HB5:Hid (Below w.heap.size w w5):=HB2.o.trans (hb5.mono HB2.o.size)
   have HE5:Hid (ze1 w5 a5 k (devs X k)):=fun q hq=>by rw[devs,if_pos hq];exact evsAt_dcells hv5 q hq
   clear hg hb5 hv5 f1 f2 f3
   go_wp2_with fail
   refine Encode_any a5 k c5 (devs X k) w5 _ (zcq.below HL.o HB5.o nr) (by omega) HE5.o HF.o.2.1 ?_ ?_
   .intro q w6 hq _ hf _
    rw[HF.o.1 q hq] at hf
    cases hf
   .intro v6 w6 _ hb6 hv6
    rw[HF.o.2.2,List.length_map,List.length_range] at hv6
    obtain ⟨a6,c6,e6⟩:=zar hv6
    subst e6
    have HB6:Hid (Below w.heap.size w w6):=HB5.o.trans (hb6.mono HB5.o.size)
    have HV6:Hid (BsAt w6 a6 N (byteAt ((List.range N).map X))):=bsAt_own hv6
    clear hb6 hv6
    go_wp2_with fail
    refine kSame_any a6 a2 N c6 N c2 (byteAt ((List.range N).map X)) X w6 _ (by omega) (by omega) HV6.o (HX.o.below HB6.o nr) ?_
    intro w7 hb7
    have hdec:decide (N=N/\ ∀i,i<N->byteAt ((List.range N).map X) i=X i)=true:=by
     simp only[true_and,decide_eq_true_eq]
     intro i hi
     simp[byteAt,List.getD,hi]
    rw[hdec]
    have hfin:Hid (R (.returned (.bool true)) w7):=HR.o w7 (HB6.o.trans (hb7.mono HB6.o.size))
    clear hb7 hdec
    go_wp2_with fail
    exact hfin.o
 .intro v2 w2 hf hb2 hv2
  obtain ⟨a3,c3,e3⟩:=zar hv2
  subst e3
  obtain ⟨L,hLn⟩:=xq ((za6 es n).length)
  have hL40:=zge es n
  have HLn:=zl (hLn.symm)
  rw[←hLn] at hv2 hL40
  rw[←hLn]
  have HB2:Hid (Below w.heap.size w w2):=HB1.o.trans (hb2.mono HB1.o.size)
  have HF:=zl hf
  have HV2:Hid (BsAt w2 a3 L (byteAt (za6 es n))):=bsAt_own hv2
  have hc3:=own_cap hv2
  clear hf hb2 hv2 hLn
  go_wp2_with fail
  refine Decode_any a3 L c3 (byteAt (za6 es n)) w2 _ (zcq.below HL.o HB2.o nr) (by omega) hc3 HV2.o (by rw[←HLn.o];exact allbytes_byte es n) ?_ ?_ ?_
  .intro i w3 hg h1 h2 _
   rw[←HLn.o] at hg h1
   exact((read_lies HF.o (fun q=>Hr.o q 8) (lies_self _) hg).1 _ h1 h2 (.inl rfl)).elim
  .intro i w3 hg h1 h2 h3 _
   rw[←HLn.o] at hg h1 h3
   exact((read_lies HF.o (fun q=>Hr.o q 8) (lies_self _) hg).1 _ h1 h2 (.inr h3)).elim
  .intro i v3 w3 hg h1 hb3 hv3
   rw[←HLn.o] at hg h1
   obtain rfl:=(read_lies HF.o (fun q=>Hr.o q 8) (lies_self _) hg).2 h1
   obtain ⟨a4,c4,e4⟩:=zar hv3
   subst e4
   have HB3:Hid (Below w.heap.size w w3):=HB2.o.trans (hb3.mono HB2.o.size)
   have HV3:Hid (BsAt w3 a3 L (byteAt (za6 es i))):=HV2.o.below hb3 nr
   have HE3:Hid (ze1 w3 a4 i es):=fun q hq=>by
    obtain ⟨g,o,e,hc⟩:=evsAt_dcells hv3 q hq
    refine⟨g,o,e,fun j hj=>?_⟩
    rw[hc j hj]
    show some (Value.int .i64 (dev _ _ j))=_
    rw[((lies_good es _ i HF.o (fun q=>Hr.o q 8) (lies_self _)).2 q hq).2 j hj]
   clear hg h1 hb3 hv3
   go_wp2_with fail
   go_loopw [12,13] (fun t _ wr=> ∃q:Nat,q<=i/\t= .int .i64 q/\Below w3.heap.size w3 wr) (fun t _ _=>i-(intOf t).toNat)
   case atStart=>exact⟨0,Nat.zero_le _,rfl,br⟩
   case round=>
    obtain ⟨q,hq,rfl,hbr⟩:=hrel
    have HBr:=zl hbr
    have HBwr:Hid (Below w.heap.size w wr):=HB3.o.trans (hbr.mono HB3.o.size)
    clear hbr
    by_cases hlt:q<i
    .obtain ⟨g1,o1,rfl,hc1⟩:=HE.o q hlt
     obtain ⟨g2,o2,rfl,hc2⟩:=HE3.o q hlt
     have d0:=(HBwr.o.cell (zab (hc1 0 (by decide)))).trans (hc1 0 (by decide))
     have d1:=(HBwr.o.cell (zab (hc1 1 (by decide)))).trans (hc1 1 (by decide))
     have d2:=(HBwr.o.cell (zab (hc1 2 (by decide)))).trans (hc1 2 (by decide))
     have d3:=(HBwr.o.cell (zab (hc1 3 (by decide)))).trans (hc1 3 (by decide))
     have d4:=(HBwr.o.cell (zab (hc1 4 (by decide)))).trans (hc1 4 (by decide))
     have d5:=(HBwr.o.cell (zab (hc1 5 (by decide)))).trans (hc1 5 (by decide))
     have d6:=(HBwr.o.cell (zab (hc1 6 (by decide)))).trans (hc1 6 (by decide))
     have d7:=(HBwr.o.cell (zab (hc1 7 (by decide)))).trans (hc1 7 (by decide))
     have d8:=(HBwr.o.cell (zab (hc1 8 (by decide)))).trans (hc1 8 (by decide))
     have d9:=(HBwr.o.cell (zab (hc1 9 (by decide)))).trans (hc1 9 (by decide))
     have f0:=(HBr.o.cell (zab (hc2 0 (by decide)))).trans (hc2 0 (by decide))
     have f1:=(HBr.o.cell (zab (hc2 1 (by decide)))).trans (hc2 1 (by decide))
     have f2:=(HBr.o.cell (zab (hc2 2 (by decide)))).trans (hc2 2 (by decide))
     have f3:=(HBr.o.cell (zab (hc2 3 (by decide)))).trans (hc2 3 (by decide))
     have f4:=(HBr.o.cell (zab (hc2 4 (by decide)))).trans (hc2 4 (by decide))
     have f5:=(HBr.o.cell (zab (hc2 5 (by decide)))).trans (hc2 5 (by decide))
     have f6:=(HBr.o.cell (zab (hc2 6 (by decide)))).trans (hc2 6 (by decide))
     have f7:=(HBr.o.cell (zab (hc2 7 (by decide)))).trans (hc2 7 (by decide))
     have f8:=(HBr.o.cell (zab (hc2 8 (by decide)))).trans (hc2 8 (by decide))
     have f9:=(HBr.o.cell (zab (hc2 9 (by decide)))).trans (hc2 9 (by decide))
     rw[Nat.add_zero] at d0 f0
     have hq0:(0:Int)<=(q:Int):=by omega
     have hq1:(q:Int)<(i:Int):=by omega
     clear hc1 hc2
     go_wp2_with fail
     refine wp_region_still_tail 8 (by kernel_rfl) (by kernel_rfl) ?_
     simp only[List.take_succ_cons,List.take_zero,List.drop_succ_cons,List.drop_zero]
     change wpStill _ _ wr.drew (fun a'=>wpList _ _ _ _ a' wr.drew) _ _
     have HBd:Hid (Below w3.heap.size w3 wr.drew):=HBr.o.trans (br.drew)
     change wr.drew.cell? _=_ at d0 d1 d2 d3 d4 d5 d6 d7 d8 d9 f0 f1 f2 f3 f4 f5 f6 f7 f8 f9
     generalize wr.drew=W at *
     repeat still_step
     refine wpStill_nil ?_
     clear d0 d1 d2 d3 d4 d5 d6 d7 d8 d9 f0 f1 f2 f3 f4 f5 f6 f7 f8 f9
     go_wp2_with fail
     refine kSameEvent_any (es q) W _ ?_
     intro w4 hb4
     have HB4:Hid (Below w3.heap.size w3 w4):=HBd.o.trans (hb4.mono HBd.o.size)
     clear hb4
     go_wp2_with fail
     go_roundw
     case rel=>exact⟨q+1,by omega,by go_num,HB4.o⟩
     case measure=>simp only[intOf];omega
    .have hqi:q=i:=by omega
     subst hqi
     by_cases hq0:0<q
     .obtain ⟨s1,s2,-,-⟩:=lies_short es _ q HF.o (fun q=>Hr.o q 8) (lies_self _) hq0
      have hL9:0<L:=by rw[←HLn.o];omega
      have hL1:(0:Int)<(L:Int):=by omega
      clear s1 s2
      go_wp2_with fail
      have HV4:Hid (BsAt wr a3 (L-1) (byteAt (za6 es q))):=fun i hi=>HV3.o.below HBr.o nr i (by omega)
      refine Decode_any a3 (L-1) c3 (byteAt (za6 es q)) wr _ (zcq.below HL.o HBwr.o nr) (by omega) (by omega) HV4.o (fun i hi=>allbytes_byte es q i (by rw[HLn.o];omega)) ?_ ?_ ?_
      .intro i w4 hg h1 h2 _
       rw[←HLn.o] at hg h1
       exact((read_short HF.o (fun q=>Hr.o q 8) (lies_self _) hq0 hg).1 h1 h2).elim
      .intro i w4 _ _ _ _ hb4
       have HB4:Hid (Below w.heap.size w w4):=HBwr.o.trans (hb4.mono HBwr.o.size)
       clear hb4
       go_wp2_with fail
       refine Decode_any a2 N c2 X w4 _ (zcq.below HL.o HB4.o nr) (by omega) hcap (HX.o.below HB4.o nr) HB.o ?_ ?_ ?_
       .intro k w5 _ hp _ hb5
        have hfin:Hid (R (.returned (.bool true)) w5):=HR.o w5 (HB4.o.trans (hb5.mono HB4.o.size))
        clear hb5
        generalize pos X k=pk at *
        have hp0:(0:Int)<=(pk:Int):=by omega
        have hp1:(pk:Int)<(N:Int):=by omega
        go_wp2_with fail
        exact hfin.o
       .intro k w5 _ hp _ _ hb5
        have hfin:Hid (R (.returned (.bool true)) w5):=HR.o w5 (HB4.o.trans (hb5.mono HB4.o.size))
        clear hb5
        generalize pos X k=pk at *
        have hp0:(0:Int)<=(pk:Int):=by omega
        have hp1:(pk:Int)<(N:Int):=by omega
        go_wp2_with fail
        exact hfin.o
       .intro k v5 w5 hg hp hb5 hv5
        obtain ⟨a5,c5,e5⟩:=zar hv5
        subst e5
        have hkN:=pos_ge X N k hg
        obtain ⟨f1,f2,f3⟩:=devs_bytes X N k HB.o hg
        have HF:Hid ((∀q,q<k->fits (devs X k q)=true)/\(∀q j,-9223372036854775808<=devs X k q j/\devs X k q j<=9223372036854775807)/\za6 (devs X k) k=(List.range N).map X):=⟨f1,f2,by rw[f3,hp]⟩
        have HB5:Hid (Below w.heap.size w w5):=HB4.o.trans (hb5.mono HB4.o.size)
        have HE5:Hid (ze1 w5 a5 k (devs X k)):=fun q hq=>by rw[devs,if_pos hq];exact evsAt_dcells hv5 q hq
        clear hg hb5 hv5 f1 f2 f3
        go_wp2_with fail
        refine Encode_any a5 k c5 (devs X k) w5 _ (zcq.below HL.o HB5.o nr) (by omega) HE5.o HF.o.2.1 ?_ ?_
        .intro q w6 hq _ hf _
         rw[HF.o.1 q hq] at hf
         cases hf
        .intro v6 w6 _ hb6 hv6
         rw[HF.o.2.2,List.length_map,List.length_range] at hv6
         obtain ⟨a6,c6,e6⟩:=zar hv6
         subst e6
         have HB6:Hid (Below w.heap.size w w6):=HB5.o.trans (hb6.mono HB5.o.size)
         have HV6:Hid (BsAt w6 a6 N (byteAt ((List.range N).map X))):=bsAt_own hv6
         clear hb6 hv6
         go_wp2_with fail
         refine kSame_any a6 a2 N c6 N c2 (byteAt ((List.range N).map X)) X w6 _ (by omega) (by omega) HV6.o (HX.o.below HB6.o nr) ?_
         intro w7 hb7
         have hdec:decide (N=N/\ ∀i,i<N->byteAt ((List.range N).map X) i=X i)=true:=by
          simp only[true_and,decide_eq_true_eq]
          intro i hi
          simp[byteAt,List.getD,hi]
         rw[hdec]
         have hfin:Hid (R (.returned (.bool true)) w7):=HR.o w7 (HB6.o.trans (hb7.mono HB6.o.size))
         clear hb7 hdec
         go_wp2_with fail
         exact hfin.o
      .intro i v4 w4 hg h1 _ _
       rw[←HLn.o] at hg h1
       exact((read_short HF.o (fun q=>Hr.o q 8) (lies_self _) hq0 hg).2 h1).elim
     .have hL0:L=0:=by
       obtain rfl:q=0:=by omega
       rw[←HLn.o]
       rfl
      subst hL0
      go_wp2_with fail
      refine Decode_any a2 N c2 X wr _ (zcq.below HL.o HBwr.o nr) (by omega) hcap (HX.o.below HBwr.o nr) HB.o ?_ ?_ ?_
      .intro k w5 _ hp _ hb5
       have hfin:Hid (R (.returned (.bool true)) w5):=HR.o w5 (HBwr.o.trans (hb5.mono HBwr.o.size))
       clear hb5
       generalize pos X k=pk at *
       have hp0:(0:Int)<=(pk:Int):=by omega
       have hp1:(pk:Int)<(N:Int):=by omega
       go_wp2_with fail
       exact hfin.o
      .intro k w5 _ hp _ _ hb5
       have hfin:Hid (R (.returned (.bool true)) w5):=HR.o w5 (HBwr.o.trans (hb5.mono HBwr.o.size))
       clear hb5
       generalize pos X k=pk at *
       have hp0:(0:Int)<=(pk:Int):=by omega
       have hp1:(pk:Int)<(N:Int):=by omega
       go_wp2_with fail
       exact hfin.o
      .intro k v5 w5 hg hp hb5 hv5
       obtain ⟨a5,c5,e5⟩:=zar hv5
       subst e5
       have hkN:=pos_ge X N k hg
       obtain ⟨f1,f2,f3⟩:=devs_bytes X N k HB.o hg
       have HF:Hid ((∀q,q<k->fits (devs X k q)=true)/\(∀q j,-9223372036854775808<=devs X k q j/\devs X k q j<=9223372036854775807)/\za6 (devs X k) k=(List.range N).map X):=⟨f1,f2,by rw[f3,hp]⟩
       have HB5:Hid (Below w.heap.size w w5):=HBwr.o.trans (hb5.mono HBwr.o.size)
       have HE5:Hid (ze1 w5 a5 k (devs X k)):=fun q hq=>by rw[devs,if_pos hq];exact evsAt_dcells hv5 q hq
       clear hg hb5 hv5 f1 f2 f3
       go_wp2_with fail
       refine Encode_any a5 k c5 (devs X k) w5 _ (zcq.below HL.o HB5.o nr) (by omega) HE5.o HF.o.2.1 ?_ ?_
       .intro q w6 hq _ hf _
        rw[HF.o.1 q hq] at hf
        cases hf
       .intro v6 w6 _ hb6 hv6
        rw[HF.o.2.2,List.length_map,List.length_range] at hv6
        obtain ⟨a6,c6,e6⟩:=zar hv6
        subst e6
        have HB6:Hid (Below w.heap.size w w6):=HB5.o.trans (hb6.mono HB5.o.size)
        have HV6:Hid (BsAt w6 a6 N (byteAt ((List.range N).map X))):=bsAt_own hv6
        clear hb6 hv6
        go_wp2_with fail
        refine kSame_any a6 a2 N c6 N c2 (byteAt ((List.range N).map X)) X w6 _ (by omega) (by omega) HV6.o (HX.o.below HB6.o nr) ?_
        intro w7 hb7
        have hdec:decide (N=N/\ ∀i,i<N->byteAt ((List.range N).map X) i=X i)=true:=by
         simp only[true_and,decide_eq_true_eq]
         intro i hi
         simp[byteAt,List.getD,hi]
        rw[hdec]
        have hfin:Hid (R (.returned (.bool true)) w7):=HR.o w7 (HB6.o.trans (hb7.mono HB6.o.size))
        clear hb7 hdec
        go_wp2_with fail
        exact hfin.o
