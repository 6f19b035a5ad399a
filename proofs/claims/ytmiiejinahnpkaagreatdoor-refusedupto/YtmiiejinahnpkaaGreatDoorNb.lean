import Derived.Test.YtmiiejinahnpkaaGreatDoorXGdHe
import Derived.Lib.AppendZeros
import Derived.Test.YtmiiejinahnpkaaGreatDoorXBmCd
set_option maxRecDepth 8000
set_option maxHeartbeats 1000000
namespace Go.Proofs.YtmiiejinahnpkaaGreatDoor
open Go.RowKit Go.Shelf Go.Lib
theorem bvs_one (l:List Int): ∀u∈l.map bv,u.oneCell'=true:=fun u hu=>by
 obtain ⟨x,_,rfl⟩:=List.mem_map.1 hu
 rfl
theorem bytes_join {w:World}{B:Nat}{v u:Value}{n m:Nat}{xs ys:List Int}(ty:TypeId)(h1:w.ownsRow B 5 1 v n (xs.map bv))(h2:w.ownsRow 0 5 1 u m (ys.map bv))(hn:n+m<=4000000000)(hb:B<=w.heap.size):
  ∃v' w',(Builtin.append_ #[31,31] ty #[v,u]).run Tryz.prog w= .ok v' w'/\Grew B 5 1 w v w' v' (n+m) ((xs++ys).map bv):=by
 obtain ⟨i0,hi0,hz0,hzs,hzb⟩:=info_parts Tryz.infoU8
 rcases h2.2 with ⟨rfl,h0⟩|⟨g,cap,cur,rfl,_,h3,h4,h5,h6,h7⟩
 .have hE:ys=[]:=by have:=h2.1;rw[h0] at this;exact List.eq_nil_of_length_eq_zero (by simpa using this)
  subst hE
  subst h0
  refine⟨v,w,?_,⟨by simpa using h1,grownBy_refl _ _,.inl rfl⟩⟩
  obtain ⟨a,c,rfl⟩:=zae h1
  have hnc:n<=c:=by
   rcases h1.2 with ⟨e1,e2⟩|⟨g,c',cur,e1,_,_,e4,_⟩
   .rw[e2];exact Nat.zero_le _
   .cases e1;exact e4
  simp[Builtin.append_,run_underlying Tryz.underlying31,sizeOf,typeInfo,hi0,Builtin.lenOf,Builtin.firstCells,loadCells]
  rw[if_pos hnc]
  cases a<;>simp[storeCells]
 .obtain ⟨v',w',r1,r2,r3,r4⟩:=run_append_own_at (P:=Tryz.prog) w B 31 ty 5 i0 _ 1 1 Tryz.underlying31 hi0 hz0 hzs hzb rfl (by decide) v n (xs.map bv) h1 ⟨g,0,none⟩ m cap (ys.map bv) (by have:=h2.1;omega) (fun j x hj=>by
   rw[Addr.add_lit]
   rw[cell_of_row w g (0+j) cur _ (0,0) h3]
   rw[←h7,List.getElem?_take] at hj
   split at hj
   .simpa using hj
   .cases hj) (bvs_one ys) (by unfold maxLen;omega) (by omega) hb
  refine⟨v',w',r1,⟨by rw[List.map_append];exact r2,r3,?_⟩⟩
  rcases r4.2 with h|h
  .exact .inl h
  .exact .inr fun g' hg=>by rw[h] at hg;injection hg with hg;omega
theorem kNumber_any (n:Int)(w:World)(R:EW)(h0:0<=n)(h1:n<=4294967295)
  (hR: ∀v w',Below w.heap.size w w'->w'.ownsRow w.heap.size 5 1 v 4 ((be n 4).map bv)->R (.returned v) w'):
  Calls Tryz.prog 61 #[.int .i64 n] w R:=by
 have HR:=zl hR
 clear hR
 go_enter Tryz.func61,Tryz.ntmps61
 go_wp2_with fail
 have hfin:Hid (R (.returned (.slice (some ⟨w.heap.size,0,none⟩) 4 4)) (w.alloc (.cells #[.int .u8 (n/16777216),.int .u8 (n/65536%256),.int .u8 (n/256%256),.int .u8 (n%256)] 5))):=by
  refine HR.o _ _ (br.alloc nr _) ?_
  have:=zft (base:=w.heap.size) (e:=5) w #[.int .u8 (n/16777216),.int .u8 (n/65536%256),.int .u8 (n/256%256),.int .u8 (n%256)] 4 nr rfl (by decide)
  rw[show (be n 4).map bv=(#[.int .u8 (n/16777216),.int .u8 (n/65536%256),.int .u8 (n/256%256),.int .u8 (n%256)]:Array Value).toList by simp[be,bv];omega]
  exact this
 exact hfin.o
theorem kTick_any (n:Int)(w:World)(R:EW)(h0:0<=n)(h1:n<=4294967295)
  (hR: ∀v w',Below w.heap.size w w'->w'.ownsRow w.heap.size 5 1 v 5 ((4::be n 4).map bv)->R (.returned v) w'):
  Calls Tryz.prog 32 #[.int .i64 n] w R:=by
 have HR:=zl hR
 clear hR
 go_enter Tryz.func32,Tryz.ntmps32
 go_wp2_with fail
 have HO:Hid ((w.alloc (.cells #[.int .u8 4] 5)).ownsRow w.heap.size 5 1 (.slice (some ⟨w.heap.size,0,none⟩) 1 1) 1 (([4]:List Int).map bv)):=zft (base:=w.heap.size) (e:=5) w #[.int .u8 4] 1 nr rfl (by decide)
 have HB:Hid (Below w.heap.size w (w.alloc (.cells #[.int .u8 4] 5))):=br.alloc nr _
 generalize w.alloc (.cells #[.int .u8 4] 5)=w1 at *
 refine kNumber_any n w1 _ h0 h1 ?_
 intro v2 w2 hb2 ho2
 have hz:w.heap.size<=w2.heap.size:=llt HB.o.size hb2.size
 obtain ⟨v3,w3,hj,hG⟩:=bytes_join 31 (zbe HO.o hb2) (own_base ho2 (Nat.zero_le _)) (by decide) hz
 have hfin:Hid (R (.returned v3) w3):=HR.o _ _ ((HB.o.trans (hb2.mono HB.o.size)).trans (hG.below hz (fun g hg=>by simp[Value.ownBlock] at hg;omega))) hG.own
 clear hb2 ho2 hG
 go_wp2_with (at_builtin;refine Lib.wpList_append_run _ rfl _ _ _ _ rfl _ _ rfl rfl _ _ hj ?_)
 exact hfin.o
theorem kFresh_any (id sd ty q p:Int)(w:World)(R:EW)(hi:0<=id/\id<=4294967295)(hs:0<=sd/\sd<=255)(ht:0<=ty/\ty<=255)(hq:0<=q/\q<=4294967295)(hp:0<=p/\p<=4294967295)
  (hR: ∀v w',Below w.heap.size w w'->w'.ownsRow w.heap.size 5 1 v 15 (([1]++be id 4++[sd,ty]++be q 4++be p 4).map bv)->R (.returned v) w'):
  Calls Tryz.prog 46 #[.int .i64 id,.int .i64 sd,.int .i64 ty,.int .i64 q,.int .i64 p] w R:=by
 have HR:=zl hR
 have HQ:=zl hq
 have HP:=zl hp
 obtain ⟨hs0,hs1⟩:=hs
 obtain ⟨ht0,ht1⟩:=ht
 clear hR hq hp
 go_enter Tryz.func46,Tryz.ntmps46
 go_wp2_with fail
 have HO:Hid ((w.alloc (.cells #[.int .u8 1] 5)).ownsRow w.heap.size 5 1 (.slice (some ⟨w.heap.size,0,none⟩) 1 1) 1 (([1]:List Int).map bv)):=zft (base:=w.heap.size) (e:=5) w #[.int .u8 1] 1 nr rfl (by decide)
 have HB:Hid (Below w.heap.size w (w.alloc (.cells #[.int .u8 1] 5))):=br.alloc nr _
 generalize w.alloc (.cells #[.int .u8 1] 5)=w1 at *
 refine kNumber_any id w1 _ hi.1 hi.2 ?_
 intro v2 w2 hb2 ho2
 have hz:w.heap.size<=w2.heap.size:=llt HB.o.size hb2.size
 obtain ⟨v3,w3,hj,hG⟩:=bytes_join 31 (zbe HO.o hb2) (own_base ho2 (Nat.zero_le _)) (by decide) hz
 have HB3:Hid (Below w.heap.size w w3):=(HB.o.trans (hb2.mono HB.o.size)).trans (hG.below hz (fun g hg=>by simp[Value.ownBlock] at hg;omega))
 have HG3:=zl (hG.own)
 clear hb2 ho2 hG hi HO HB hz
 have hbA:Below w3.heap.size w3 (w3.alloc (.cells #[.int .u8 sd,.int .u8 ty] 5)):=br.alloc nr _
 obtain ⟨v4,w4,hj4,hG4⟩:=bytes_join (m:=2) (ys:=[sd,ty]) 31 (zbe HG3.o hbA) (zft (base:=0) (e:=5) w3 #[.int .u8 sd,.int .u8 ty] 2 (Nat.zero_le _) rfl (by decide)) (by decide) (llt HB3.o.size hbA.size)
 have HB4:Hid (Below w.heap.size w w4):=(HB3.o.trans (hbA.mono HB3.o.size)).trans (hG4.below (llt HB3.o.size hbA.size) (fun g hg=>(HG3.o.lt g hg).1))
 have HG4:=zl (hG4.own)
 clear hbA hG4 HG3 HB3
 go_wp2_with (first|(at_builtin;refine Lib.wpList_append_run _ rfl _ _ _ _ rfl _ _ rfl rfl _ _ hj ?_)|(at_builtin;refine Lib.wpList_append_run _ rfl _ _ _ _ rfl _ _ rfl rfl _ _ hj4 ?_))
 clear hj hj4
 refine kNumber_any q w4 _ HQ.o.1 HQ.o.2 ?_
 intro v5 w5 hb5 ho5
 have hz5:w.heap.size<=w5.heap.size:=llt HB4.o.size hb5.size
 obtain ⟨v6,w6,hj,hG⟩:=bytes_join 31 (zbe HG4.o hb5) (own_base ho5 (Nat.zero_le _)) (by decide) hz5
 have HB6:Hid (Below w.heap.size w w6):=(HB4.o.trans (hb5.mono HB4.o.size)).trans (hG.below hz5 (fun g hg=>(HG4.o.lt g hg).1))
 have HG6:=zl (hG.own)
 clear hb5 ho5 hG HG4 HB4 hz5
 go_wp2_with (at_builtin;refine Lib.wpList_append_run _ rfl _ _ _ _ rfl _ _ rfl rfl _ _ hj ?_)
 clear hj
 refine kNumber_any p w6 _ HP.o.1 HP.o.2 ?_
 intro v7 w7 hb7 ho7
 have hz7:w.heap.size<=w7.heap.size:=llt HB6.o.size hb7.size
 obtain ⟨v8,w8,hj,hG⟩:=bytes_join 31 (zbe HG6.o hb7) (own_base ho7 (Nat.zero_le _)) (by decide) hz7
 have hfin:Hid (R (.returned v8) w8):=HR.o _ _ ((HB6.o.trans (hb7.mono HB6.o.size)).trans (hG.below hz7 (fun g hg=>(HG6.o.lt g hg).1))) hG.own
 clear hb7 ho7 hG HG6 HB6 hz7
 go_wp2_with (at_builtin;refine Lib.wpList_append_run _ rfl _ _ _ _ rfl _ _ rfl rfl _ _ hj ?_)
 exact hfin.o
theorem kSame_any (a1 a2:Option Addr)(n1 c1 n2 c2:Nat)(xs ys:Nat->Int)(w:World)(R:EW)(h1:n1<=1073741824)(h2:n2<=1073741824)
  (hx: ∀i,i<n1-> ∃b o,a1=some ⟨b,o,none⟩/\w.cell? ⟨b,o+i,none⟩=some (.int .u8 (xs i)))(hy: ∀i,i<n2-> ∃b o,a2=some ⟨b,o,none⟩/\w.cell? ⟨b,o+i,none⟩=some (.int .u8 (ys i)))
  (hR: ∀w',Below w.heap.size w w'->R (.returned (.bool (decide (n1=n2/\ ∀i,i<n1->xs i=ys i)))) w'):
  Calls Tryz.prog 21 #[.slice a1 n1 c1,.slice a2 n2 c2] w R:=by
 by_cases hn:n1=n2
 .subst hn
  go_enter Tryz.func21,Tryz.ntmps21
  go_wp2
  go_loopw [5] (fun i wr=> ∃k:Nat,k<=n1/\i= .int .i64 k/\(∀j,j<k->xs j=ys j)/\Below w.heap.size w wr) (fun i _=>n1-(intOf i).toNat)
  case atStart=>exact⟨0,Nat.zero_le _,rfl,fun j hj=>absurd hj (by omega),br⟩
  case round=>
   obtain ⟨k,hk,rfl,hj,hb⟩:=hrel
   by_cases hlt:k<n1
   .obtain ⟨b1,o1,rfl,gx0⟩:=hx k hlt
    obtain ⟨b2,o2,rfl,gy0⟩:=hy k hlt
    have gx:=(hb.cell (p:=⟨b1,o1+k,none⟩) (zab gx0)).trans gx0
    have gy:=(hb.cell (p:=⟨b2,o2+k,none⟩) (zab gy0)).trans gy0
    by_cases he:xs k=ys k
    .have hf:(xs k !=ys k)=false:=by simp[he]
     clear hx hy hR gx0 gy0
     go_wp2
     go_quiet (fail)
     go_wp2
     go_roundw
     case rel=>exact⟨k+1,by omega,by go_num,fun j hjk=>by rcases Nat.lt_succ_iff_lt_or_eq.1 hjk with h|h;exact hj j h;subst h;exact he,below_drewN hb _⟩
     case measure=>simp[intOf];omega
    .have hf:(xs k !=ys k)=true:=by simp[he]
     have hR':Hid (∀w',Below w.heap.size w w'->R (.returned (.bool false)) w'):=fun w' hb=>zam (hR w' hb) (by simp;exact⟨k,hlt,he⟩)
     clear hx hy hR gx0 gy0
     go_wp2
     go_quiet (fail)
     go_wp2
     exact hR'.o _ (below_drewN hb _)
   .have hR':Hid (∀w',Below w.heap.size w w'->R (.returned (.bool true)) w'):=fun w' hb=>zam (hR w' hb) (by simp;exact fun i hi=>hj i (by omega))
    clear hx hy hR hj
    go_wp2
    exact hR'.o _ hb
 .have hf:((n1:Int) !=n2)=true:=by simp;omega
  have hR':Hid (R (.returned (.bool false)) w):=zam (hR w br) (by simp[hn])
  clear hx hy hR
  go_enter Tryz.func21,Tryz.ntmps21
  go_wp2
  exact hR'.o
