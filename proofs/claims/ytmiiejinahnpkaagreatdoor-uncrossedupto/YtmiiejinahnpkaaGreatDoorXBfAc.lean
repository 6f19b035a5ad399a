import Derived.Test.YtmiiejinahnpkaaGreatDoorXBaBd
import Derived.ChangeKeysEq
import Derived.Deep.RegionWith
import Derived.Deep.DrawnRows
set_option maxHeartbeats 2000000
namespace Go.Proofs.YtmiiejinahnpkaaGreatDoor
open Go.RowKit
section
def zcq (w:World):Prop:= ∀k:Nat,1<=k->k<=8-> ∃b o c,w.cell? ⟨0,k,none⟩=some (.slice (some ⟨b,o,none⟩) (lay k).length c)/\
 ∀i f,(lay k)[i]?=some f->w.cell? ⟨b,o+i,none⟩=some (.int .i64 (f:Nat))
theorem zcq.below {w w':World}{B:Nat}(h:zcq w)(hb:Below B w w')(hB:w.heap.size<=B):zcq w':=by
 intro k h1 h2
 obtain ⟨b,o,c,h3,h4⟩:=h k h1 h2
 refine⟨b,o,c,(hb.cell (lll (zab h3) hB)).trans h3,fun i f hf=>?_⟩
 exact(hb.cell (lll (zab (h4 i f hf)) hB)).trans (h4 i f hf)
theorem Tryz.isAggInt (w:World):(isAgg 2).run Tryz.prog w= .ok false w:=by kernel_rfl
theorem Tryz.cellsInt64:Tryz.prog.cellsOf 2=1:=by kernel_rfl
theorem Tryz.infoInt64: ∃i,Tryz.prog.info? 2=some i:=info_of_underlying Tryz.underlying2
theorem part_int (xs:Array Value)(i:Nat)(v:Value)(h:xs[i]?=some v)(w:World):(part 2 xs i).run Tryz.prog w= .ok v w:=by
 simp only[part,Sem.run_bind,Tryz.isAggInt,Result.andThen_ok]
 simp[h]
theorem eqItems_step (xs ys:Array Value)(i:Nat)(is:List Nat)(a b:Int)(r:Bool)(d:Nat)(w:World)(h1:xs[i]?=some (.int .i64 a))(h2:ys[i]?=some (.int .i64 b))
  (h:(Op.eqItems (d+1) 2 1 xs ys is).run Tryz.prog w= .ok r w):(Op.eqItems (d+1) 2 1 xs ys (i::is)).run Tryz.prog w= .ok ((a==b)&&r) w:=by
 simp only[Op.eqItems,Sem.run_bind,Nat.mul_one,part_int xs i _ h1,part_int ys i _ h2,Result.andThen_ok,run_equalIn_int w d 2 .i64 .i64 a b Tryz.underlying2]
 cases hab:(a==b)
 .simp
 .simpa using h
theorem arr8_eq (x:Nat->Int)(w:World):(binOp .eql 131 (.agg #[.int .i64 (x 0),.int .i64 (x 1),.int .i64 (x 2),.int .i64 (x 3),.int .i64 (x 4),.int .i64 (x 5),.int .i64 (x 6),.int .i64 (x 7)]) (.agg #[.int .i64 0,.int .i64 0,.int .i64 0,.int .i64 0,.int .i64 0,.int .i64 0,.int .i64 0,.int .i64 0])).run Tryz.prog w=
  .ok (.bool ((List.range 8).all fun i=>x i==0)) w:=by
 obtain ⟨i0,hi⟩:=Tryz.infoInt64
 rw[run_eql_struct,run_equalIn_array w 9999 _ _ Tryz.underlying131 hi,Tryz.cellsInt64]
 have h: ∀(is:List Nat),(∀i∈is,i<8)->(Op.eqItems 9999 2 1 #[.int .i64 (x 0),.int .i64 (x 1),.int .i64 (x 2),.int .i64 (x 3),.int .i64 (x 4),.int .i64 (x 5),.int .i64 (x 6),.int .i64 (x 7)] #[.int .i64 0,.int .i64 0,.int .i64 0,.int .i64 0,.int .i64 0,.int .i64 0,.int .i64 0,.int .i64 0] is).run Tryz.prog w= .ok (is.all fun i=>x i==0) w:=by
  intro is
  induction is with
  |nil=>intro _;simp[Op.eqItems]
  |cons i is ih=>
   intro hm
   have hi8:i<8:=hm i (by simp)
   have h2:=zhf (fun _=>0) i hi8
   exact eqItems_step _ _ i is (x i) 0 _ 9998 w (zhf x i hi8) h2 (ih fun q hq=>hm q (by simp[hq]))
 rw[h (List.range 8) (by intro i hi;simpa using hi)]
 simp
theorem Fits_kind (e:Nat->Int)(w:World)(R:EW)(hL:zcq w)(k:Nat)(hk1:1<=k)(hk8:k<=8)(hk:e 0=k)(hn:isN (e 1)=true)(hR: ∀w',Below w.heap.size w w'->R (.returned (.bool (fits e))) w'):
  Calls Tryz.prog 43 #[evv e] w R:=by
 have hR':=zl hR
 have HK:=zl hk
 clear hR hk
 obtain ⟨b,o,c,ht,hc⟩:=hL k hk1 hk8
 have hl0:=zab ht
 simp only[isN,decide_eq_true_eq] at hn
 obtain ⟨n,hnl⟩:=xq ((lay k).length)
 have hn4:n<=4:=by rw[hnl];exact zkt k
 obtain ⟨fl,hfl⟩: ∃fl:Nat->Nat,fl=fun i=>(lay k).getD i 0:=⟨_,rfl⟩
 have hfc: ∀i,i<n->w.cell? ⟨b,o+i,none⟩=some (.int .i64 (fl i)):=by
  intro i hi
  rw[hfl]
  exact hc i _ (by simp only[List.getD_eq_getElem?_getD];rw[List.getElem?_eq_getElem (by omega)];rfl)
 have hf8: ∀i,i<n->fl i<8:=by
  intro i hi
  rw[hfl]
  simp only[List.getD_eq_getElem?_getD]
  rw[List.getElem?_eq_getElem (by omega)]
  exact lay_lt k _ (List.getElem_mem _)
 rw[←hnl] at ht
 have HN:=zl hnl
 have HF:=zl hfl
 clear hnl hfl hc
 unfold evv
 rw[HK.o]
 go_enter Tryz.func43,Tryz.ntmps43
 go_wp2_with fail
 refine zin _ _ _ ?_
 go_wp2_with fail
 refine ze7 _ _ _ ?_
 go_wp2_with fail
 have hE:Ints (w.alloc (.cells #[.int .i64 (k:Int),.int .i64 (e 1),.int .i64 (e 2),.int .i64 (e 3),.int .i64 (e 4),.int .i64 (e 5),.int .i64 (e 6),.int .i64 (e 7),.int .i64 (e 8),.int .i64 (e 9)] 42)) w.heap.size 10 e:=Ints.new 10 e (by rw[←HK.o];exact zgd e)
 have hB0:Below w.heap.size w (w.alloc (.cells #[.int .i64 (k:Int),.int .i64 (e 1),.int .i64 (e 2),.int .i64 (e 3),.int .i64 (e 4),.int .i64 (e 5),.int .i64 (e 6),.int .i64 (e 7),.int .i64 (e 8),.int .i64 (e 9)] 42)):=br.alloc nr _
 have hs0:w.heap.size<(w.alloc (.cells #[.int .i64 (k:Int),.int .i64 (e 1),.int .i64 (e 2),.int .i64 (e 3),.int .i64 (e 4),.int .i64 (e 5),.int .i64 (e 6),.int .i64 (e 7),.int .i64 (e 8),.int .i64 (e 9)] 42)).heap.size:=by simp
 generalize w.alloc (.cells #[.int .i64 (k:Int),.int .i64 (e 1),.int .i64 (e 2),.int .i64 (e 3),.int .i64 (e 4),.int .i64 (e 5),.int .i64 (e 6),.int .i64 (e 7),.int .i64 (e 8),.int .i64 (e 9)] 42)=W0 at *
 refine values_of e _ ?_ _ _ ?_
 .simp[evv,HK.o]
 intro w1 hb1
 have hE1:=hE.ext hb1
 have hB1:=hB0.trans (hb1.mono (Nat.le_of_lt hs0))
 have hs1:=hb1.size
 clear hE hB0 hb1
 have hg1:=hE1.cell
 have ht1:=(hB1.cell hl0).trans ht
 have hlE:=hE1.lt
 have hl1:0<w1.heap.size:=zab ht1
 have hb0:n≠0->b<w1.heap.size:=fun h=>zab ((hB1.cell (zab (hfc 0 (by omega)))).trans (hfc 0 (by omega)))
 have HFC:=zl hfc
 have HB1:=zl hB1
 have HE1:=zl hE1
 have HS:Hid (w.heap.size<w1.heap.size):=by show _<_;omega
 clear hL hfc hB1 hE1 ht hs0 hs1
 generalize hHE:w.heap.size=E at *
 have HHE:=zl hHE
 clear hHE
 unfold v8
 have hk:=HK.o
 go_wp2_with fail
 clear hk hg1 ht1 hlE hl1
 generalize hLB:w1.heap.size=L at *
 go_loopw [5,23] (fun _ i wr=> ∃j:Nat,j<=n/\i= .int .i64 j/\Ints wr L 8 (zf6 e ((lay k).take j))/\Below w.heap.size w wr/\ ∀q,q<j->fl q=6\/isN (e (fl q+2))=true) (fun _ i _=>n-(intOf i).toNat)
 case atStart=>
  refine⟨0,Nat.zero_le _,rfl,?_,?_,fun q hq=>absurd hq (by omega)⟩
  .rw[←hLB]
   have:=Ints.new (w:=w1) (t:=131) 8 (fun f=>e (f+2)) (zhf (fun f=>e (f+2)))
   exact this
  .have h1:=HB1.o
   have h2:=HHE.o
   rw[←h2] at h1
   exact h1.alloc (by have:=h1.size;omega) _
 case round=>
  obtain ⟨j,hj,rfl,hI,hB,hq⟩:=hrel
  have hHE:=HHE.o
  rw[hHE] at hB
  have hcl:=hI.cell
  have hfr:=hI.free
  have hlt:=hI.lt
  by_cases hjn:j<n
  .have hc1:wr.cell? ⟨b,o+j,none⟩=some (.int .i64 (fl j)):=(hB.cell (by rw[←hHE];exact zab (HFC.o j hjn))).trans (HFC.o j hjn)
   have hf:=hf8 j hjn
   have hx:zf6 e ((lay k).take j) (fl j)=e (fl j+2):=by
    simp only[zf6]
    rw[HF.o]
    simp only
    rw[if_neg]
    rw[lay_fresh k j (by rw[←HN.o];exact hjn)]
    simp
   have hcx:wr.cell? ⟨L,fl j,none⟩=some (.int .i64 (e (fl j+2))):=by rw[←hx];exact hcl _ hf
   have hst:Hid (Ints (wr.setCell ⟨L,fl j,none⟩ (.int .i64 0)) L 8 (zf6 e ((lay k).take (j+1)))):=by
    have:=hI.store (fl j) 0
    rw[HF.o] at this ⊢
    rw[←struck_step e k j (by rw[←HN.o];exact hjn)]
    exact this
   have hfj:=hfr (fl j)
   generalize hfv:fl j=f at *
   have HFV:=zl hfv
   have HQ:=zl hq
   have HB:=zl hB
   have HI:=zl hI
   clear hHE hcl hfr hx hfv hq hB hI hf8
   have hst':Hid (Below w.heap.size w (wr.setCell ⟨L,f,none⟩ (.int .i64 0))):=by
    have h1:=HB.o
    rw[←HHE.o] at h1
    exact h1.setCell (by show w.heap.size<=L;rw[HHE.o];exact Nat.le_of_lt HS.o) _
   by_cases h6:f=6
   .have h6':((f:Int) !=6)=false:=by simp;omega
    have hq': ∀q,q<j+1->fl q=6\/isN (e (fl q+2))=true:=by
     intro q hq
     by_cases hqj:q=j
     .exact .inl (by rw[hqj,HFV.o,h6])
     .exact HQ.o q (by omega)
    have HQ':=zl hq'
    clear hq' HQ h6
    go_wp2_with fail
    go_roundw
    case rel=>exact⟨j+1,by omega,by go_num,hst.out,hst'.out,HQ'.o⟩
    case measure=>simp[intOf];omega
   .have h6':((f:Int) !=6)=true:=by simp;omega
    by_cases hN:isN (e (f+2))=true
    .have hq': ∀q,q<j+1->fl q=6\/isN (e (fl q+2))=true:=by
      intro q hq
      by_cases hqj:q=j
      .exact .inr (by rw[hqj,HFV.o,hN])
      .exact HQ.o q (by omega)
     have HQ':=zl hq'
     clear hq' HQ
     simp only[isN,decide_eq_true_eq] at hN
     go_wp2_with fail
     refine ze7 _ _ _ ?_
     go_wp2_with fail
     go_roundw
     case rel=>exact⟨j+1,by omega,by go_num,hst.out,hst'.out,HQ'.o⟩
     case measure=>simp[intOf];omega
    .have hff:fits e=false:=by
      rw[Bool.eq_false_iff]
      intro hf
      simp only[fits,Bool.and_eq_true,List.all_eq_true] at hf
      have h1:=hf.1.2 f (by
       rw[HK.o,←HFV.o,HF.o]
       simp only[List.getD_eq_getElem?_getD]
       rw[List.getElem?_eq_getElem (by rw[←HN.o];exact hjn)]
       exact List.getElem_mem _)
      simp[h6] at h1
      exact hN h1
     have hRf:Hid (R (.returned (.bool false)) wr):=zam (hR'.o wr HB.o) hff
     clear hff
     have hN':decide (0<=e (f+2)/\e (f+2)<=4294967295)=false:=by simpa [isN] using hN
     clear hN
     go_wp2_with fail
     refine ze7 _ _ _ ?_
     rw[hN']
     go_wp2_with fail
     exact hRf.out
  .have hj':j=n:=by omega
   subst hj'
   have HI:=zl hI
   have hall:(List.range 8).all (fun f=>(lay (e 0)).contains f||e (f+2)==0)=(List.range 8).all fun i=>zf6 e ((lay k).take j) i==0:=by
    rw[HK.o,List.take_of_length_le (by rw[←HN.o];omega)]
    congr 1
    funext i
    simp only[zf6]
    cases (lay (k:Int)).contains i<;>simp
   have hff:fits e=(List.range 8).all fun i=>zf6 e ((lay k).take j) i==0:=by
    have h1:isK (e 0)=true:=by rw[HK.o];simp[isK];omega
    have h2:isN (e 1)=true:=by simp[isN,hn]
    have h3:(lay (e 0)).all (fun f=>f==6||isN (e (f+2)))=true:=by
     rw[List.all_eq_true]
     intro f hf
     rw[HK.o] at hf
     obtain ⟨i,hi,he⟩:=List.getElem_of_mem hf
     have:=hq i (by have:=HN.o;omega)
     rw[HF.o] at this
     simp only[List.getD_eq_getElem?_getD,List.getElem?_eq_getElem hi,Option.getD_some,he] at this
     rcases this with h|h
     .simp[h]
     .simp[h]
    rw[←hall]
    simp only[fits,h1,h2,h3,Bool.true_and]
   generalize zf6 e ((lay k).take j)=x at *
   have hRf:Hid (R (.returned (.bool ((List.range 8).all fun i=>x i==0))) wr):=zam (hR'.o wr hB) hff
   clear hff hall hq
   have hop:=arr8_eq x
   go_wp2_with fail
   refine zam hRf.out ?_
   simp[List.range,List.range.loop]
theorem Fits_any (e:Nat->Int)(w:World)(R:EW)(hL:zcq w)(hR: ∀w',Below w.heap.size w w'->R (.returned (.bool (fits e))) w'):
  Calls Tryz.prog 43 #[evv e] w R:=by
 cases hk:isK (e 0) with
 |false=>
  have hR':Hid (∀w',Below w.heap.size w w'->R (.returned (.bool false)) w'):=fun w' hb=>zam (hR w' hb) (by simp[fits,hk])
  clear hR
  have hk':decide (1<=e 0/\e 0<=8)=false:=hk
  clear hk
  unfold evv
  go_enter Tryz.func43,Tryz.ntmps43
  go_wp2_with fail
  refine zin _ _ _ ?_
  rw[hk']
  go_wp2_with fail
  exact hR'.o _ (br.alloc nr _)
 |true=>
  cases hn:isN (e 1) with
  |false=>
   have hR':Hid (∀w',Below w.heap.size w w'->R (.returned (.bool false)) w'):=fun w' hb=>zam (hR w' hb) (by simp[fits,hn])
   clear hR
   have hk':decide (1<=e 0/\e 0<=8)=true:=hk
   have hn':decide (0<=e 1/\e 1<=4294967295)=false:=hn
   clear hk hn
   unfold evv
   go_enter Tryz.func43,Tryz.ntmps43
   go_wp2_with fail
   refine zin _ _ _ ?_
   rw[hk']
   go_wp2_with fail
   refine ze7 _ _ _ ?_
   rw[hn']
   go_wp2_with fail
   exact hR'.o _ (br.alloc nr _)
  |true=>
   have hk':1<=e 0/\e 0<=8:=by simpa [isK] using hk
   obtain ⟨k,hkk⟩:=Int.eq_ofNat_of_zero_le (show 0<=e 0 by omega)
   exact Fits_kind e w R hL k (by omega) (by omega) hkk hn hR
end
section
attribute [local go_sem↓] Go.wp_at_zero Go.wp_at_succ
variable {xs:List Value} {B n size:Nat} {e:TypeId} {v v2:Value} {w w2:World}
theorem Grew.ext {w3:World}(h:Grew B e size w v w2 v2 n xs)(hb:Below w2.heap.size w2 w3):Grew B e size w v w3 v2 n xs:=by
 refine⟨h.own.kept (row:=none) ⟨hb.os,hb.tape,hb.output,hb.size,fun k hk _=>hb.block k hk⟩ (by cases hv:v2.ownBlock<;>simp),⟨hb.os.trans h.grown.os,hb.tape.trans h.grown.tape,hb.output.trans h.grown.output,llt h.grown.size hb.size,fun k hk hne=>(hb.block k (lll hk h.grown.size)).trans (h.grown.block k hk hne)⟩,h.lies⟩
theorem zfd (B:Nat)(v:Value)(n:Nat)(xs:List Int)(V M:Int)(m:Nat)(hM:M=m)(w:World)(R:EW)
  (hV: -9223372036854775808<=V/\V<=9223372036854775807)(hm:m<=8)(hn:n+m<=1073741824)(hB:B<=w.heap.size)
  (hown:w.ownsRow B 5 1 v n (xs.map bv))
  (hR: ∀v' w',Grew B 5 1 w v w' v' (n+m) ((xs++be V m).map bv)->R (.returned v') w'):
  Calls Tryz.prog 82 #[v,.int .i64 V,.int .i64 M] w R:=by
 subst hM
 exact zlf B v n xs V m w R hV.1 hV.2 hm hn hB hown hR
theorem width_nat (f:Nat)(w:World)(R:EW)(hR:R (.returned (.int .i64 (wid f:Nat))) w):Calls Tryz.prog 83 #[.int .i64 (f:Nat)] w R:=
 width_any f w R (by
  have:(if (f:Int)=6 then (8:Int) else 4)=(wid f:Nat):=by
   unfold wid
   by_cases h:f=6
   .simp[h]
   .rw[if_neg (by omega),if_neg h];rfl
  rw[this]
  exact hR)
theorem wid_le (f:Nat):wid f<=8:=by unfold wid;split<;>omega
theorem Grew.of_drew (h:Grew B e size w.drew v w2 v2 n xs):Grew B e size w v w2 v2 n xs:=
 ⟨h.own,⟨h.grown.os,h.grown.tape,h.grown.output,h.grown.size,h.grown.block⟩,h.lies⟩
def zd5 (e:Nat->Int) (l:List Nat):List Int:=l.flatMap fun f=>be (e (f+2)) (wid f)
theorem zlc (e:Nat->Int)(l:List Nat):(zd5 e l).length<=8 * l.length:=by
 induction l with
 |nil=>simp[zd5]
 |cons f l ih=>
  simp only[zd5,List.flatMap_cons,List.length_append,zb8,List.length_cons] at ih ⊢
  have:=wid_le f
  omega
theorem zks (e:Nat->Int)(l:List Nat)(j f:Nat)(h:l[j]?=some f):zd5 e (l.take (j+1))=zd5 e (l.take j)++be (e (f+2)) (wid f):=by
 rw[zag l j f h]
 simp[zd5]
theorem Append_any (w0:World)(hL:zcq w0)(v:Value)(n:Nat)(xs:List Int)(e:Nat->Int)(w:World)(R:EW)(h0:Below w0.heap.size w0 w)(hown:w.ownsRow w0.heap.size 5 1 v n (xs.map bv))
  (k:Nat)(hk1:1<=k)(hk8:k<=8)(hk:e 0=k)(hr: ∀j,-9223372036854775808<=e j/\e j<=9223372036854775807)(hn:n+64<=1073741824)
  (hR: ∀v' w',Grew w0.heap.size 5 1 w v w' v' (n+(zdr e).length) ((xs++zdr e).map bv)->R (.returned v') w'):
  Calls Tryz.prog 44 #[v,evv e] w R:=by
 have hR':=zl hR
 have HK:=zl hk
 have HR:=zl hr
 have hsz:=h0.size
 clear hR hk hr
 unfold evv
 rw[HK.o]
 have hE:Ints (w.alloc (.cells #[.int .i64 (k:Int),.int .i64 (e 1),.int .i64 (e 2),.int .i64 (e 3),.int .i64 (e 4),.int .i64 (e 5),.int .i64 (e 6),.int .i64 (e 7),.int .i64 (e 8),.int .i64 (e 9)] 42)) w.heap.size 10 e:=Ints.new 10 e (by rw[←HK.o];exact zgd e)
 have hG0:Grew w0.heap.size 5 1 w v (w.alloc (.cells #[.int .i64 (k:Int),.int .i64 (e 1),.int .i64 (e 2),.int .i64 (e 3),.int .i64 (e 4),.int .i64 (e 5),.int .i64 (e 6),.int .i64 (e 7),.int .i64 (e 8),.int .i64 (e 9)] 42)) v n (xs.map bv):=(Grew.refl hown).ext (br.alloc nr _)
 have hvE:v.ownBlock≠some w.heap.size:=fun h=>by have:=(hown.lt _ h).2;omega
 have HE:=zl hE
 have HG0:=zl hG0
 have HO:=zl hown
 clear hE hG0 hown
 go_enter Tryz.func44,Tryz.ntmps44
 go_wp2_with fail
 have hs0:w.heap.size<(w.alloc (.cells #[.int .i64 (k:Int),.int .i64 (e 1),.int .i64 (e 2),.int .i64 (e 3),.int .i64 (e 4),.int .i64 (e 5),.int .i64 (e 6),.int .i64 (e 7),.int .i64 (e 8),.int .i64 (e 9)] 42)).heap.size:=by simp
 generalize w.alloc (.cells #[.int .i64 (k:Int),.int .i64 (e 1),.int .i64 (e 2),.int .i64 (e 3),.int .i64 (e 4),.int .i64 (e 5),.int .i64 (e 6),.int .i64 (e 7),.int .i64 (e 8),.int .i64 (e 9)] 42)=W0 at *
 refine zfd w0.heap.size v n xs _ _ 1 (by rfl) _ _ (by have:=HR.o 0;rw[HK.o] at this;exact this) (by decide) (by omega) (by omega) HG0.o.own ?_
 intro v1 w1 hg1
 have hG1:=HG0.o.trans hg1
 have hE1:=HE.o.grown hg1.grown hvE
 have HG1:=zl hG1
 have HE1:=zl hE1
 have HW1:=zl hg1
 have hz1:=hg1.grown.size
 have hc1:=hE1.cell
 clear hG1 hE1 hg1
 go_wp2_with fail
 refine zfd w0.heap.size v1 (n+1) (xs++be k 1) _ _ 4 (by rfl) _ _ (HR.o 1) (by decide) (by omega) (by omega) HG1.o.own ?_
 intro v2 w2 hg2
 have HG2:=zl (HG1.o.trans hg2)
 have HW2:=HW1.o.trans hg2
 have hE2:=HE.o.grown HW2.grown hvE
 have HE2:=zl hE2
 have hz2:=hg2.grown.size
 have hc2:=hE2.cell
 have hl2:=hE2.lt
 clear hg2 HW2 hE2 hc1
 have hk:=HK.o
 go_wp2_with fail
 refine values_of e _ ?_ _ _ ?_
 .simp[evv,hk]
 intro w3 hb3
 have HG3:=zl (HG2.o.ext hb3)
 have hE3:=HE2.o.ext hb3
 have hB3:Below w0.heap.size w0 w3:=h0.trans (HG3.o.below hsz fun g hg=>(HO.o.lt g hg).1)
 obtain ⟨b,o,c,ht0,hc0⟩:=hL k hk1 hk8
 have ht:=(hB3.cell (zab ht0)).trans ht0
 have hl0:=zab ht
 obtain ⟨m,hnl⟩:=xq ((lay k).length)
 have hn4:m<=4:=by rw[hnl];exact zkt k
 rw[←hnl] at ht
 have HN:=zl hnl
 have HC:=zl hc0
 have hc3:=hE3.cell
 have hl3:=hE3.lt
 have HB3:=zl hB3
 clear hnl hc0 hb3 hE3 hB3 hc2 hl2 ht0
 unfold v8
 go_wp2_with fail
 clear hk hc3 hl3 ht hl0
 have hA4:=Ints.new (w:=w3) (t:=131) 8 (fun f=>e (f+2)) (zhf (fun f=>e (f+2)))
 simp only[Nat.zero_add,Nat.reduceAdd] at hA4
 have hG4:=HG3.o.ext (br.alloc nr (.cells #[.int .i64 (e 2),.int .i64 (e 3),.int .i64 (e 4),.int .i64 (e 5),.int .i64 (e 6),.int .i64 (e 7),.int .i64 (e 8),.int .i64 (e 9)] 131))
 have hB4:Below w0.heap.size w0 (w3.alloc (.cells #[.int .i64 (e 2),.int .i64 (e 3),.int .i64 (e 4),.int .i64 (e 5),.int .i64 (e 6),.int .i64 (e 7),.int .i64 (e 8),.int .i64 (e 9)] 131)):=HB3.o.alloc HB3.o.size _
 have hv2:v2.ownBlock≠some w3.heap.size:=fun h=>by have:=(HG3.o.own.lt _ h).2;omega
 generalize w3.alloc (.cells #[.int .i64 (e 2),.int .i64 (e 3),.int .i64 (e 4),.int .i64 (e 5),.int .i64 (e 6),.int .i64 (e 7),.int .i64 (e 8),.int .i64 (e 9)] 131)=W4 at *
 generalize w3.heap.size=L at *
 have HG4:=zl hG4
 have HA4:=zl hA4
 have HB4:=zl hB4
 clear hA4 hG4 hB4
 go_loopw [0,7,23] (fun b' _ i wr=> ∃j:Nat,j<=m/\i= .int .i64 j/\Grew w0.heap.size 5 1 W4 v2 wr b' (n+1+4+(zd5 e ((lay k).take j)).length) ((xs++be k 1++be (e 1) 4++zd5 e ((lay k).take j)).map bv)) (fun _ _ i _=>m-(intOf i).toNat)
 case atStart=>exact⟨0,Nat.zero_le _,rfl,(Grew.refl HG4.o.own).cast (by simp[zd5]) (by simp[zd5])⟩
 case round=>
  obtain ⟨j,hj,rfl,hG⟩:=hrel
  by_cases hjm:j<m
  .obtain ⟨f,hf⟩: ∃f,(lay k)[j]?=some f:=⟨_,List.getElem?_eq_getElem (by rw[←HN.o];exact hjm)⟩
   have hf8:f<8:=lay_lt k f (List.mem_of_getElem? hf)
   have hBr:Below w0.heap.size w0 wr:=HB4.o.trans (hG.below HB4.o.size fun g hg=>(HG4.o.own.lt g hg).1)
   have hcf:wr.cell? ⟨b,o+j,none⟩=some (.int .i64 (f:Nat)):=(hBr.cell (zab (HC.o j f hf))).trans (HC.o j f hf)
   have hA:=HA4.o.grown hG.grown hv2
   have hcA:=hA.cell f hf8
   have hzr:=hBr.size
   have HF:=zl hf
   have HG:=zl hG
   clear hA hBr hf hG
   go_wp2_with fail
   have hlb:(zd5 e ((lay k).take j)).length<=32:=by
    have h1:=zlc e ((lay k).take j)
    have h2:((lay k).take j).length<=4:=llt (List.length_take_le' _ _) (zkt k)
    omega
   have hw8:=wid_le f
   have hbd:n+1+4+(zd5 e ((lay k).take j)).length+wid f<=1073741824:=by omega
   go_region_with (first|(go_at_call 83;refine width_nat _ _ _ ?_)|(go_at_call 82;refine zfd w0.heap.size u0 _ _ _ _ (wid f) (by rfl) _ _ (HR.o _) hw8 hbd (by exact hzr) (by exact HG.o.own) ?_;intro v1 w1 hg1))
   all_goals
    have G:Hid (Grew w0.heap.size 5 1 W4 v2 w1 v1 (n+1+4+(zd5 e ((lay k).take (j+1))).length) ((xs++be k 1++be (e 1) 4++zd5 e ((lay k).take (j+1))).map bv)):=
     (HG.o.trans (by first|exact Grew.of_drew hg1|exact Grew.of_drewN hg1|exact hg1)).cast (by rw[zks e (lay k) j f HF.o];simp only[List.length_append,zb8];omega) (by rw[zks e (lay k) j f HF.o];simp only[List.append_assoc])
    clear hg1
    go_wp2
    go_roundw
    case rel=>exact⟨j+1,by omega,by go_num,G.out⟩
    case measure=>simp[intOf];omega
  .have hj':j=m:=by omega
   subst hj'
   have hbytes:be (k:Int) 1++be (e 1) 4++zd5 e ((lay k).take j)=zdr e:=by
    rw[List.take_of_length_le (by rw[←HN.o];omega)]
    simp only[zdr,zd5,HK.o]
   have hf:=hR'.o _ _ ((HG4.o.trans hG).cast (by rw[←hbytes];simp only[List.length_append,zb8];omega) (by rw[←hbytes];simp only[List.append_assoc]))
   have HF:=zl hf
   clear hf hG hbytes
   go_wp2_with fail
   exact HF.o
end
section
def za6 (es:Nat->Nat->Int) (k:Nat):List Int:=(List.range k).flatMap fun q=>zdr (es q)
theorem zcm (es:Nat->Nat->Int)(k:Nat):za6 es (k+1)=za6 es k++zdr (es k):=by simp[za6,List.range_succ]
theorem ebytes_len (e:Nat->Int):(zdr e).length<=40:=by
 have h1:=zlc e (lay (e 0))
 have h2:=zkt (e 0)
 simp only[zdr,List.length_append,zb8]
 simp only[zd5] at h1
 omega
theorem zge (es:Nat->Nat->Int)(k:Nat):(za6 es k).length<=40 * k:=by
 induction k with
 |zero=>simp[za6]
 |succ k ih=>
  rw[zcm,List.length_append]
  have:=ebytes_len (es k)
  omega
def ze1 (w:World) (a:Option Addr) (n:Nat) (es:Nat->Nat->Int):Prop:= ∀i,i<n-> ∃b o,a=some ⟨b,o,none⟩/\ ∀j,j<10->w.cell? ⟨b,o+i * 10+j,none⟩=some (.int .i64 (es i j))
theorem ze1.below {w w':World}{B:Nat}{a:Option Addr}{n:Nat}{es:Nat->Nat->Int}(h:ze1 w a n es)(hb:Below B w w')(hB:w.heap.size<=B):ze1 w' a n es:=by
 intro i hi
 obtain ⟨b,o,h1,h2⟩:=h i hi
 exact⟨b,o,h1,fun j hj=>(hb.cell (lll (zab (h2 j hj)) hB)).trans (h2 j hj)⟩
theorem Fits_of (e:Nat->Int)(V:Value)(hV:V=evv e)(w:World)(R:EW)(hL:zcq w)(hR: ∀w',Below w.heap.size w w'->R (.returned (.bool (fits e))) w'):
  Calls Tryz.prog 43 #[V] w R:=hV▸Fits_any e w R hL hR
theorem Append_of (w0:World)(hL:zcq w0)(v:Value)(n:Nat)(xs:List Int)(e:Nat->Int)(V:Value)(hV:V=evv e)(w:World)(R:EW)(h0:Below w0.heap.size w0 w)(hown:w.ownsRow w0.heap.size 5 1 v n (xs.map bv))
  (hf:fits e=true)(hr: ∀j,-9223372036854775808<=e j/\e j<=9223372036854775807)(hn:n+64<=1073741824)
  (hR: ∀v' w',Grew w0.heap.size 5 1 w v w' v' (n+(zdr e).length) ((xs++zdr e).map bv)->R (.returned v') w'):
  Calls Tryz.prog 44 #[v,V] w R:=by
 subst hV
 have hk:1<=e 0/\e 0<=8:=by simp only[fits,Bool.and_eq_true,isK,decide_eq_true_eq] at hf;exact hf.1.1.1
 obtain ⟨k,hkk⟩:=Int.eq_ofNat_of_zero_le (show 0<=e 0 by omega)
 exact Append_any w0 hL v n xs e w R h0 hown k (by omega) (by omega) hkk hr hn hR
theorem Encode_any (a:Option Addr)(n c:Nat)(es:Nat->Nat->Int)(w:World)(R:EW)(hL:zcq w)(hn:n<=1048576)(hes:ze1 w a n es)
  (hr: ∀i j,-9223372036854775808<=es i j/\es i j<=9223372036854775807)
  (hR1: ∀i w',i<n->(∀q,q<i->fits (es q)=true)->fits (es i)=false->Below w.heap.size w w'->R (.returned (.tuple #[.slice none 0 0,.int .i64 3,.int .i64 i])) w')
  (hR2: ∀v w',(∀q,q<n->fits (es q)=true)->Below w.heap.size w w'->w'.ownsRow w.heap.size 5 1 v (za6 es n).length ((za6 es n).map bv)->R (.returned (.tuple #[v,.int .i64 0,.int .i64 0])) w'):
  Calls Tryz.prog 15 #[.slice a n c] w R:=by
 have HR1:=zl hR1
 have HR2:=zl hR2
 have HR:=zl hr
 have HL:=zl hL
 have HE:=zl hes
 clear hR1 hR2 hr hL hes
 go_enter Tryz.func15,Tryz.ntmps15
 go_wp2_with fail
 go_loopw [5,6,7,10] (fun b' _ _ i wr=> ∃k:Nat,k<=n/\i= .int .i64 k/\(∀q,q<k->fits (es q)=true)/\Grew w.heap.size 5 1 w (.slice none 0 0) wr b' (za6 es k).length ((za6 es k).map bv)) (fun _ _ _ i _=>n-(intOf i).toNat)
 case atStart=>exact⟨0,Nat.zero_le _,rfl,fun q hq=>absurd hq (by omega),Grew.refl (World.ownsRow_nil _ _ _ _)⟩
 case round=>
  obtain ⟨k,hk,rfl,hq,hG⟩:=hrel
  have hBr:Below w.heap.size w wr:=hG.below nr (fun g hg=>by simp[Value.ownBlock] at hg)
  have HG:=zl hG
  have HQ:=zl hq
  have HB:=zl hBr
  clear hq hG hBr
  by_cases hkn:k<n
  .obtain ⟨b,o,rfl,hc⟩:=HE.o k hkn
   have hc': ∀j,j<10->wr.cell? ⟨b,o+k * 10+j,none⟩=some (.int .i64 (es k j)):=fun j hj=>(HB.o.cell (zab (hc j hj))).trans (hc j hj)
   have c0:=hc' 0 (by decide)
   rw[Nat.add_zero] at c0
   have hzb:=zab c0
   clear hc
   have hE:Ints (wr.alloc (.cells #[.int .i64 (es k 0),.int .i64 (es k 1),.int .i64 (es k 2),.int .i64 (es k 3),.int .i64 (es k 4),.int .i64 (es k 5),.int .i64 (es k 6),.int .i64 (es k 7),.int .i64 (es k 8),.int .i64 (es k 9)] 42)) wr.heap.size 10 (es k):=Ints.new 10 (es k) (zgd (es k))
   have hG1:=HG.o.ext (br.alloc nr (.cells #[.int .i64 (es k 0),.int .i64 (es k 1),.int .i64 (es k 2),.int .i64 (es k 3),.int .i64 (es k 4),.int .i64 (es k 5),.int .i64 (es k 6),.int .i64 (es k 7),.int .i64 (es k 8),.int .i64 (es k 9)] 42))
   have HE1:=zl hE
   have HG1:=zl hG1
   clear hE hG1
   go_wp2_with fail
   generalize wr.alloc (.cells #[.int .i64 (es k 0),.int .i64 (es k 1),.int .i64 (es k 2),.int .i64 (es k 3),.int .i64 (es k 4),.int .i64 (es k 5),.int .i64 (es k 6),.int .i64 (es k 7),.int .i64 (es k 8),.int .i64 (es k 9)] 42)=W1 at *
   have hB1:Below w.heap.size w W1:=HG1.o.below nr (fun g hg=>by simp[Value.ownBlock] at hg)
   refine Fits_of (es k) _ (by rfl) _ _ (HL.o.below hB1 nr) ?_
   intro w2 hb2
   have hB2:Below w.heap.size w w2:=hB1.trans (hb2.mono hB1.size)
   have HB2:=zl hB2
   cases hf:fits (es k) with
   |false=>
    have hfin:=zl (HR1.o k w2 hkn HQ.o hf hB2)
    clear hf hB1 hB2 hc' c0 hb2 hzb
    go_wp2_with fail
    go_ret3
    exact hfin.o
   |true=>
    have HF:=zl hf
    have hE2:=HE1.o.ext hb2
    have HG2:=zl (HG1.o.ext hb2)
    have hcE:=hE2.cell
    clear hf hB1 hB2 hc' c0 hb2 hzb hE2
    go_wp2_with fail
    refine Append_of w HL.o u5 _ (za6 es k) (es k) _ (by rfl) _ _ HB2.o HG2.o.own HF.o (HR.o k) ?_ ?_
    .have:=zge es k
     omega
    intro v3 w3 hg3
    have HG3:Hid (Grew w.heap.size 5 1 w (.slice none 0 0) w3 v3 (za6 es (k+1)).length ((za6 es (k+1)).map bv)):=(HG2.o.trans hg3).cast (by rw[zcm,List.length_append]) (by rw[zcm])
    have HQ':Hid (∀q,q<k+1->fits (es q)=true):=by
     intro q hq
     by_cases h:q=k
     .rw[h];exact HF.o
     .exact HQ.o q (by omega)
    clear hg3 hcE
    go_wp2_with fail
    go_roundw
    case rel=>exact⟨k+1,by omega,by go_num,HQ'.o,HG3.o⟩
    case measure=>simp[intOf];omega
  .have hk':k=n:=by omega
   subst hk'
   have hfin:=zl (HR2.o u5 wr HQ.o HB.o HG.o.own)
   go_wp2_with fail
   go_ret3
   exact hfin.o
end
section
theorem filled_any (k s:Int)(a:Option Addr)(n c:Nat)(xs:Nat->Int)(u:Int)(w:World)(R:EW)(hk:isK k=true)(hn:(layn k).length<=n)
  (hx: ∀i,i<(layn k).length-> ∃b o,a=some ⟨b,o,none⟩/\w.cell? ⟨b,o+i,none⟩=some (.int .i64 (xs i)))
  (hR: ∀w',Below w.heap.size w w'->R (.returned (evv (fill k s xs u))) w'):
  Calls Tryz.prog 101 #[.int .i64 k,.int .i64 s,.slice a n c,.int .i64 u] w R:=by
 rcases zcd k with h|h|h|h|h|h|h|h|h
 .subst h
  have hR':Hid (∀w',Below w.heap.size w w'->R (.returned (.agg #[.int .i64 1,.int .i64 s,.int .i64 (xs 0),.int .i64 0,.int .i64 0,.int .i64 0,.int .i64 (xs 1),.int .i64 0,.int .i64 u,.int .i64 0])) w'):=hR
  clear hR hk
  obtain ⟨b,o,rfl,c0⟩:=hx 0 (by decide)
  obtain ⟨b1,o1,e1,c1⟩:=hx 1 (by decide)
  simp at e1
  obtain ⟨rfl,rfl⟩:=e1
  rw[Nat.add_zero] at c0
  have hlt:=zab c0
  clear hx
  rw[show (layn 1).length=2 from rfl] at hn
  go_enter Tryz.func101,Tryz.ntmps101
  go_wp2
  refine bodyPost_ret (v:= .agg #[.int .i64 1,.int .i64 s,.int .i64 (xs 0),.int .i64 0,.int .i64 0,.int .i64 0,.int .i64 (xs 1),.int .i64 0,.int .i64 u,.int .i64 0]) (by simp[results,Tryz.results101,go_sem]) rfl (hR'.o _ ?_)
  exact(br.alloc nr _).alloc (by simp) _
 .subst h
  have hR':Hid (∀w',Below w.heap.size w w'->R (.returned (.agg #[.int .i64 2,.int .i64 s,.int .i64 (xs 0),.int .i64 (xs 1),.int .i64 0,.int .i64 0,.int .i64 0,.int .i64 0,.int .i64 u,.int .i64 0])) w'):=hR
  clear hR hk
  obtain ⟨b,o,rfl,c0⟩:=hx 0 (by decide)
  obtain ⟨b1,o1,e1,c1⟩:=hx 1 (by decide)
  simp at e1
  obtain ⟨rfl,rfl⟩:=e1
  rw[Nat.add_zero] at c0
  have hlt:=zab c0
  clear hx
  rw[show (layn 2).length=2 from rfl] at hn
  go_enter Tryz.func101,Tryz.ntmps101
  go_wp2
  refine bodyPost_ret (v:= .agg #[.int .i64 2,.int .i64 s,.int .i64 (xs 0),.int .i64 (xs 1),.int .i64 0,.int .i64 0,.int .i64 0,.int .i64 0,.int .i64 u,.int .i64 0]) (by simp[results,Tryz.results101,go_sem]) rfl (hR'.o _ ?_)
  exact(br.alloc nr _).alloc (by simp) _
 .subst h
  have hR':Hid (∀w',Below w.heap.size w w'->R (.returned (.agg #[.int .i64 3,.int .i64 s,.int .i64 0,.int .i64 0,.int .i64 (xs 0),.int .i64 (xs 1),.int .i64 (xs 2),.int .i64 (xs 3),.int .i64 u,.int .i64 0])) w'):=hR
  clear hR hk
  obtain ⟨b,o,rfl,c0⟩:=hx 0 (by decide)
  obtain ⟨b1,o1,e1,c1⟩:=hx 1 (by decide)
  simp at e1
  obtain ⟨rfl,rfl⟩:=e1
  obtain ⟨b2,o2,e2,c2⟩:=hx 2 (by decide)
  simp at e2
  obtain ⟨rfl,rfl⟩:=e2
  obtain ⟨b3,o3,e3,c3⟩:=hx 3 (by decide)
  simp at e3
  obtain ⟨rfl,rfl⟩:=e3
  rw[Nat.add_zero] at c0
  have hlt:=zab c0
  clear hx
  rw[show (layn 3).length=4 from rfl] at hn
  go_enter Tryz.func101,Tryz.ntmps101
  go_wp2
  refine bodyPost_ret (v:= .agg #[.int .i64 3,.int .i64 s,.int .i64 0,.int .i64 0,.int .i64 (xs 0),.int .i64 (xs 1),.int .i64 (xs 2),.int .i64 (xs 3),.int .i64 u,.int .i64 0]) (by simp[results,Tryz.results101,go_sem]) rfl (hR'.o _ ?_)
  exact(br.alloc nr _).alloc (by simp) _
 .subst h
  have hR':Hid (∀w',Below w.heap.size w w'->R (.returned (.agg #[.int .i64 4,.int .i64 s,.int .i64 (xs 0),.int .i64 0,.int .i64 0,.int .i64 0,.int .i64 (xs 1),.int .i64 0,.int .i64 u,.int .i64 0])) w'):=hR
  clear hR hk
  obtain ⟨b,o,rfl,c0⟩:=hx 0 (by decide)
  obtain ⟨b1,o1,e1,c1⟩:=hx 1 (by decide)
  simp at e1
  obtain ⟨rfl,rfl⟩:=e1
  rw[Nat.add_zero] at c0
  have hlt:=zab c0
  clear hx
  rw[show (layn 4).length=2 from rfl] at hn
  go_enter Tryz.func101,Tryz.ntmps101
  go_wp2
  refine bodyPost_ret (v:= .agg #[.int .i64 4,.int .i64 s,.int .i64 (xs 0),.int .i64 0,.int .i64 0,.int .i64 0,.int .i64 (xs 1),.int .i64 0,.int .i64 u,.int .i64 0]) (by simp[results,Tryz.results101,go_sem]) rfl (hR'.o _ ?_)
  exact(br.alloc nr _).alloc (by simp) _
 .subst h
  have hR':Hid (∀w',Below w.heap.size w w'->R (.returned (.agg #[.int .i64 5,.int .i64 s,.int .i64 (xs 0),.int .i64 0,.int .i64 0,.int .i64 0,.int .i64 (xs 1),.int .i64 0,.int .i64 u,.int .i64 0])) w'):=hR
  clear hR hk
  obtain ⟨b,o,rfl,c0⟩:=hx 0 (by decide)
  obtain ⟨b1,o1,e1,c1⟩:=hx 1 (by decide)
  simp at e1
  obtain ⟨rfl,rfl⟩:=e1
  rw[Nat.add_zero] at c0
  have hlt:=zab c0
  clear hx
  rw[show (layn 5).length=2 from rfl] at hn
  go_enter Tryz.func101,Tryz.ntmps101
  go_wp2
  refine bodyPost_ret (v:= .agg #[.int .i64 5,.int .i64 s,.int .i64 (xs 0),.int .i64 0,.int .i64 0,.int .i64 0,.int .i64 (xs 1),.int .i64 0,.int .i64 u,.int .i64 0]) (by simp[results,Tryz.results101,go_sem]) rfl (hR'.o _ ?_)
  exact(br.alloc nr _).alloc (by simp) _
 .subst h
  have hR':Hid (∀w',Below w.heap.size w w'->R (.returned (.agg #[.int .i64 6,.int .i64 s,.int .i64 0,.int .i64 0,.int .i64 0,.int .i64 0,.int .i64 (xs 1),.int .i64 (xs 0),.int .i64 u,.int .i64 0])) w'):=hR
  clear hR hk
  obtain ⟨b,o,rfl,c0⟩:=hx 0 (by decide)
  obtain ⟨b1,o1,e1,c1⟩:=hx 1 (by decide)
  simp at e1
  obtain ⟨rfl,rfl⟩:=e1
  rw[Nat.add_zero] at c0
  have hlt:=zab c0
  clear hx
  rw[show (layn 6).length=2 from rfl] at hn
  go_enter Tryz.func101,Tryz.ntmps101
  go_wp2
  refine bodyPost_ret (v:= .agg #[.int .i64 6,.int .i64 s,.int .i64 0,.int .i64 0,.int .i64 0,.int .i64 0,.int .i64 (xs 1),.int .i64 (xs 0),.int .i64 u,.int .i64 0]) (by simp[results,Tryz.results101,go_sem]) rfl (hR'.o _ ?_)
  exact(br.alloc nr _).alloc (by simp) _
 .subst h
  have hR':Hid (∀w',Below w.heap.size w w'->R (.returned (.agg #[.int .i64 7,.int .i64 s,.int .i64 0,.int .i64 0,.int .i64 0,.int .i64 0,.int .i64 (xs 1),.int .i64 (xs 0),.int .i64 u,.int .i64 0])) w'):=hR
  clear hR hk
  obtain ⟨b,o,rfl,c0⟩:=hx 0 (by decide)
  obtain ⟨b1,o1,e1,c1⟩:=hx 1 (by decide)
  simp at e1
  obtain ⟨rfl,rfl⟩:=e1
  rw[Nat.add_zero] at c0
  have hlt:=zab c0
  clear hx
  rw[show (layn 7).length=2 from rfl] at hn
  go_enter Tryz.func101,Tryz.ntmps101
  go_wp2
  refine bodyPost_ret (v:= .agg #[.int .i64 7,.int .i64 s,.int .i64 0,.int .i64 0,.int .i64 0,.int .i64 0,.int .i64 (xs 1),.int .i64 (xs 0),.int .i64 u,.int .i64 0]) (by simp[results,Tryz.results101,go_sem]) rfl (hR'.o _ ?_)
  exact(br.alloc nr _).alloc (by simp) _
 .subst h
  have hR':Hid (∀w',Below w.heap.size w w'->R (.returned (.agg #[.int .i64 8,.int .i64 s,.int .i64 0,.int .i64 0,.int .i64 0,.int .i64 0,.int .i64 0,.int .i64 0,.int .i64 u,.int .i64 (xs 0)])) w'):=hR
  clear hR hk
  obtain ⟨b,o,rfl,c0⟩:=hx 0 (by decide)
  rw[Nat.add_zero] at c0
  have hlt:=zab c0
  clear hx
  rw[show (layn 8).length=1 from rfl] at hn
  go_enter Tryz.func101,Tryz.ntmps101
  go_wp2
  refine bodyPost_ret (v:= .agg #[.int .i64 8,.int .i64 s,.int .i64 0,.int .i64 0,.int .i64 0,.int .i64 0,.int .i64 0,.int .i64 0,.int .i64 u,.int .i64 (xs 0)]) (by simp[results,Tryz.results101,go_sem]) rfl (hR'.o _ ?_)
  exact(br.alloc nr _).alloc (by simp) _
 .rw[h] at hk;cases hk
end
section
def wide (k:Int):Bool:=decide (k=6\/k=7)
def refill (e:Nat->Int):Nat->Int:=fill (e 0) (e 1) (fun i=>(nums e).getD i 0) (e 8)
theorem zjx (e:Nat->Int):fits e=(isK (e 0)&&isN (e 1)&&(wide (e 0)||e 8==0)&&(nums e).all isN&&ze5 e (refill e)):=by
 rcases zcd (e 0) with h|h|h|h|h|h|h|h|h
 case inr.inr.inr.inr.inr.inr.inr.inr=>simp[fits,h]
 all_goals
  simp only[fits,refill,fill,nums,lay,layn,wide,isK,ze5,h]
  simp[List.range,List.range.loop,List.idxOf,List.findIdx,List.findIdx.go]
 all_goals
  rw[Bool.eq_iff_iff]
  simp only[Bool.and_eq_true,beq_iff_eq]
  constructor<;>intro hh<;>simp_all
theorem ebytes_ref (e:Nat->Int)(hk:isK (e 0)=true):zdr e=be (e 0) 1++be (e 1) 4++(nums e).flatMap (fun x=>be x 4)++(if wide (e 0) then be (e 8) 8 else []):=by
 rcases zcd (e 0) with h|h|h|h|h|h|h|h|h
 case inr.inr.inr.inr.inr.inr.inr.inr=>rw[h] at hk;cases hk
 all_goals
  simp only[zdr,nums,lay,layn,wide,h]
  simp[wid]
theorem zju (e:Nat->Int):(nums e).length<=4:=by
 simp only[nums,List.length_map,layn]
 repeat' split
 all_goals simp
theorem be_mod (V:Int)(n:Nat)(h:n<=8):be (V%18446744073709551616) n=be V n:=by
 induction n with
 |zero=>rfl
 |succ n ih=>
  simp only[be]
  rw[ih (by omega)]
  congr 1
  have h8:n=0\/n=1\/n=2\/n=3\/n=4\/n=5\/n=6\/n=7:=by omega
  rcases h8 with rfl|rfl|rfl|rfl|rfl|rfl|rfl|rfl<;>omega
end
