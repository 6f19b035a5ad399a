import Derived.Test.YtmiiejinahnpkaaGreatDoorProg
import Derived.Test.YtmiiejinahnpkaaGreatDoorAa
import Derived.BigQuiet
import Derived.Deep.QuietTactic
set_option maxRecDepth 4000
set_option maxHeartbeats 1000000
namespace Go.Proofs.YtmiiejinahnpkaaGreatDoor
open Go.RowKit
section
theorem dg_step (n k:Nat):n/251^k/251=n/251^(k+1):=by rw[Nat.div_div_eq_div_mul,Nat.pow_succ]
theorem zk3 (n d:Nat)(w:World)(R:EW)(hn:n<=1073741824)(hd:d<=3)(hR:R (.returned (.int .u8 (dg n d))) w):
  Calls Tryz.prog 78 #[.int .i64 n,.int .i64 d] w R:=by
 go_enter Tryz.func78,Tryz.ntmps78
 go_wp2
 go_loop [0,5] (fun t i=> ∃k:Nat,k<=d/\i= .int .i64 k/\t= .int .i64 ((n/251^k:Nat):Int)) (fun _ i=>d-(intOf i).toNat)
 case atStart=>exact⟨0,Nat.zero_le _,rfl,by simp⟩
 case round=>
  obtain ⟨k,hk,rfl,rfl⟩:=hrel
  have hle:n/251^k<=n:=Nat.div_le_self _ _
  by_cases hlt:k<d
  .have hst:=dg_step n k
   generalize n/251^k=t at *
   have HS:=zl hst
   clear hst hR
   go_wp2
   go_round
   case rel=>exact⟨k+1,by omega,by go_num,by rw[←HS.o];go_num⟩
   case measure=>simp[intOf];omega
  .have hk':k=d:=by omega
   subst hk'
   have hR':Hid (R (.returned (.int .u8 (((n/251^k)%251:Nat):Int))) w):=hR
   clear hR
   generalize n/251^k=t at *
   go_wp2
   refine zci hR'.o ?_
   simp
theorem zfn (a1 a2:Option Addr)(n1 c1 n2 c2:Nat)(xs ys:Nat->Int)(w:World)(R:EW)(h1:n1<=1073741824)(h2:n2<=1073741824)
  (hx: ∀i,i<n1-> ∃b o,a1=some ⟨b,o,none⟩/\w.cell? ⟨b,o+i,none⟩=some (.int .u8 (xs i)))(hy: ∀i,i<n2-> ∃b o,a2=some ⟨b,o,none⟩/\w.cell? ⟨b,o+i,none⟩=some (.int .u8 (ys i)))
  (hR: ∀w',Below w.heap.size w w'->R (.returned (.bool (decide (n1=n2/\ ∀i,i<n1->xs i=ys i)))) w'):
  Calls Tryz.prog 16 #[.slice a1 n1 c1,.slice a2 n2 c2] w R:=by
 by_cases hn:n1=n2
 .subst hn
  go_enter Tryz.func16,Tryz.ntmps16
  go_wp2
  go_loopw [5] (fun i wr=> ∃k:Nat,k<=n1/\i= .int .i64 k/\(∀j,j<k->xs j=ys j)/\Below w.heap.size w wr) (fun i _=>n1-(intOf i).toNat)
  case atStart=>exact⟨0,Nat.zero_le _,rfl,fun j hj=>absurd hj (by omega),br⟩
  case round=>
   obtain ⟨k,hk,rfl,hj,hb⟩:=hrel
   by_cases hlt:k<n1
   .obtain ⟨b1,o1,rfl,gx0⟩:=hx k hlt
    obtain ⟨b2,o2,rfl,gy0⟩:=hy k hlt
    have gx:=(hb.cell (p:=⟨b1,o1+k,none⟩) (zab gx0)).trans gx0
    have gy:=(hb.cell (p:=⟨b2,o2+k,none⟩) (zab gy0)).trans gy0
    by_cases he:xs k=ys k
    .have hf:(xs k !=ys k)=false:=by simp[he]
     clear hx hy hR gx0 gy0
     go_wp2
     go_quiet (fail)
     go_wp2
     go_roundw
     case rel=>exact⟨k+1,by omega,by go_num,fun j hjk=>by rcases Nat.lt_succ_iff_lt_or_eq.1 hjk with h|h;exact hj j h;subst h;exact he,below_drewN hb _⟩
     case measure=>simp[intOf];omega
    .have hf:(xs k !=ys k)=true:=by simp[he]
     have hR':Hid (∀w',Below w.heap.size w w'->R (.returned (.bool false)) w'):=fun w' hb=>zam (hR w' hb) (by simp;exact⟨k,hlt,he⟩)
     clear hx hy hR gx0 gy0
     go_wp2
     go_quiet (fail)
     go_wp2
     exact hR'.o _ (below_drewN hb _)
   .have hR':Hid (∀w',Below w.heap.size w w'->R (.returned (.bool true)) w'):=fun w' hb=>zam (hR w' hb) (by simp;exact fun i hi=>hj i (by omega))
    clear hx hy hR hj
    go_wp2
    exact hR'.o _ hb
 .have hf:((n1:Int) !=n2)=true:=by simp;omega
  have hR':Hid (R (.returned (.bool false)) w):=zam (hR w br) (by simp[hn])
  clear hx hy hR
  go_enter Tryz.func16,Tryz.ntmps16
  go_wp2
  exact hR'.o
end
section
theorem read_any (B:Nat)(ab ao:Option Addr)(n cb co d:Nat)(bs:Nat->Value)(ms:Nat->Nat)(w:World)(R:EW)
  (c1:w.cell? ⟨B,1,none⟩=some (.slice ab n cb))(c2:w.cell? ⟨B,2,none⟩=some (.slice ao n co))(hn:n<=1073741824)(hd:d<=3)
  (h1: ∀i,i<n-> ∃g,ab=some ⟨g,0,none⟩/\w.cell? ⟨g,i,none⟩=some (bs i))
  (h2: ∀i,i<n-> ∃g,ao=some ⟨g,0,none⟩/\w.cell? ⟨g,i,none⟩=some (.int .i64 (ms i:Nat)))
  (h3: ∀i,i<n->ms i<=1073741824/\ ∃a l c,bs i= .slice a l c/\l<=1073741824/\ ∀k,k<l-> ∃g,a=some ⟨g,0,none⟩/\w.cell? ⟨g,k,none⟩=some (.int .u8 (dg (ms i) d:Nat)))
  (hR:R (.returned (.bool true)) w):
  Calls Tryz.prog 40 #[.pointer (some ⟨B,0,none⟩),.int .i64 (d:Nat)] w R:=by
 have HR:=zl hR
 have H1:=zl h1
 have H2:=zl h2
 have H3:=zl h3
 clear hR h1 h2 h3
 go_enter Tryz.func40,Tryz.ntmps40
 go_wp2_with fail
 go_loop [5,6,7] (fun t _ _=> ∃i:Nat,i<=n/\t= .int .i64 i) (fun t _ _=>n-(intOf t).toNat)
 case atStart=>exact⟨0,Nat.zero_le _,rfl⟩
 case round=>
  obtain ⟨i,hi,rfl⟩:=hrel
  by_cases hin:i<n
  .obtain ⟨g1,rfl,hg1⟩:=H1.o i hin
   obtain ⟨g2,rfl,hg2⟩:=H2.o i hin
   obtain ⟨hmi,a,l,c,hbi,hl,hcs⟩:=H3.o i hin
   have HC:=zl hcs
   rw[hbi] at hg1
   clear hbi hcs
   go_wp2_with fail
   refine zk3 _ d _ _ hmi hd ?_
   generalize dg (ms i) d=x at *
   go_wp2_with fail
   go_loop [7] (fun t=> ∃k:Nat,k<=l/\t= .int .i64 k) (fun t=>l-(intOf t).toNat)
   case atStart=>exact⟨0,Nat.zero_le _,rfl⟩
   case round=>
    obtain ⟨k,hk,rfl⟩:=hrel
    by_cases hkl:k<l
    .obtain ⟨g3,rfl,hg3⟩:=HC.o k hkl
     have hx:((x:Int) !=x)=false:=by simp
     go_wp2_with fail
     go_round
     case rel=>exact⟨k+1,by omega,by go_num⟩
     case measure=>simp only[intOf];omega
    .go_wp2_with fail
     go_round
     case rel=>exact⟨i+1,by omega,by go_num⟩
     case measure=>simp only[intOf];omega
  .go_wp2_with fail
   exact HR.o
end
section
def Cov (bs:Nat->Value) (n g k:Nat):Prop:= ∃i l c,i<n/\bs i= .slice (some ⟨g,0,none⟩) l c/\k<l
structure zbx (bs:Nat->Value) (n:Nat) (W W':World):Prop where
 os:W'.os=W.os
 tape:W'.tape=W.tape
 output:W'.output=W.output
 size:W'.heap.size=W.heap.size
 blk: ∀g:Nat,W'.heap[g]?=W.heap[g]?\/ ∃(cur cur':Array Value) (e:TypeId) (fr:Nat×Nat),W.heap[g]?=some (.cells cur e fr)/\W'.heap[g]?=some (.cells cur' e fr)/\cur'.size=cur.size
 cell: ∀g k,¬Cov bs n g k->W'.cell? ⟨g,k,none⟩=W.cell? ⟨g,k,none⟩
theorem zbx.refl (bs:Nat->Value)(n:Nat)(W:World):zbx bs n W W:=⟨rfl,rfl,rfl,rfl,fun _=> .inl rfl,fun _ _ _=>rfl⟩
variable {n:Nat} {bs:Nat->Value}
theorem zbx.trans {a b c:World}(h:zbx bs n a b)(k:zbx bs n b c):zbx bs n a c:=by
 refine⟨k.os.trans h.os,k.tape.trans h.tape,k.output.trans h.output,k.size.trans h.size,fun g=>?_,fun g i hc=>(k.cell g i hc).trans (h.cell g i hc)⟩
 rcases k.blk g with k1|⟨cu,cu',e,fr,k1,k2,k3⟩
 .rw[k1];exact h.blk g
 .rcases h.blk g with h1|⟨du,du',e',fr',h1,h2,h3⟩
  .exact .inr ⟨cu,cu',e,fr,by rw[←h1];exact k1,k2,k3⟩
  .rw[k1] at h2
   simp only[Option.some.injEq,Obj.cells.injEq] at h2
   obtain ⟨rfl,rfl,rfl⟩:=h2
   exact .inr ⟨du,cu',_,_,h1,k2,k3.trans h3⟩
variable {W W':World}
theorem zbx.some (h:zbx bs n W W'){g k:Nat}{x:Value}(hx:W.cell? ⟨g,k,none⟩=some x): ∃x',W'.cell? ⟨g,k,none⟩=some x':=by
 rcases h.blk g with h1|⟨cu,cu',e,fr,h1,h2,h3⟩
 .exact⟨x,(World.cell?_of_block (w:=W) (w':=W') (a:=⟨g,k,none⟩) h1).trans hx⟩
 .rw[cell_of_row W g k cu e fr h1] at hx
  rw[cell_of_row W' g k cu' e fr h2]
  obtain ⟨hlt,_⟩:=gsi.1 hx
  exact⟨_,Array.getElem?_eq_getElem (by omega)⟩
theorem zbx.frozen (h:zbx bs n W W')(g k:Nat):W'.frozen? ⟨g,k,none⟩=W.frozen? ⟨g,k,none⟩:=by
 rcases h.blk g with h1|⟨cu,cu',e,fr,h1,h2,_⟩
 .exact World.frozen?_of_block (w:=W) (w':=W') (a:=⟨g,k,none⟩) h1
 .simp only[World.frozen?,h1,h2]
theorem zbx.set {g k:Nat}(hc:Cov bs n g k)(v:Value):zbx bs n W (W.setCell ⟨g,k,none⟩ v):=by
 refine⟨rfl,rfl,rfl,by simp[World.setCell],fun q=>?_,fun q i hq=>?_⟩
 .by_cases h:q=g
  .subst h
   cases hb:W.heap[q]? with
   |none=>left;simp[World.setCell,Array.getElem?_modify,hb]
   |some o=>
    cases o with
    |cells cur e fr=>right;exact⟨cur,cur.setIfInBounds k v,e,fr,rfl,by simp[World.setCell,Array.getElem?_modify,hb],by simp⟩
    |_=>left;simp[World.setCell,Array.getElem?_modify,hb]
  .left
   exact bhs W ⟨g,k,none⟩ v q h
 .refine World.cell?_setCell_other _ _ _ _ (fun e=>hq ?_)
  simp only[Addr.mk.injEq,and_true] at e
  obtain ⟨rfl,rfl⟩:=e
  exact hc
theorem zbx.same (h:zbx bs n W W')(hc: ∀g k,Cov bs n g k->W'.cell? ⟨g,k,none⟩=W.cell? ⟨g,k,none⟩): ∀g:Nat,W'.heap[g]?=W.heap[g]?:=by
 intro g
 rcases h.blk g with h1|⟨cu,cu',e,fr,h1,h2,h3⟩
 .exact h1
 .rw[h1,h2]
  congr 2
  refine Array.ext (by omega) fun i hi1 hi2=>?_
  have hh:W'.cell? ⟨g,i,none⟩=W.cell? ⟨g,i,none⟩:=by
   by_cases hcv:Cov bs n g i
   .exact hc g i hcv
   .exact h.cell g i hcv
  rw[cell_of_row W g i cu e fr h1,cell_of_row W' g i cu' e fr h2,Array.getElem?_eq_getElem hi1,Array.getElem?_eq_getElem hi2] at hh
  exact Option.some.inj hh
theorem write_any (B:Nat)(ab ao:Option Addr)(n cb co d:Nat)(bs:Nat->Value)(ms:Nat->Nat)(w:World)(R:EW)
  (c1:w.cell? ⟨B,1,none⟩=some (.slice ab n cb))(c2:w.cell? ⟨B,2,none⟩=some (.slice ao n co))(hn:n<=1073741824)(hd:d<=3)
  (h1: ∀i,i<n-> ∃g,ab=some ⟨g,0,none⟩/\w.cell? ⟨g,i,none⟩=some (bs i)/\ ∀k,¬Cov bs n g k)
  (h2: ∀i,i<n-> ∃g,ao=some ⟨g,0,none⟩/\w.cell? ⟨g,i,none⟩=some (.int .i64 (ms i:Nat))/\ ∀k,¬Cov bs n g k)
  (h3: ∀i,i<n->ms i<=1073741824/\ ∃a l c,bs i= .slice a l c/\l<=1073741824/\ ∀k,k<l-> ∃g,a=some ⟨g,0,none⟩/\(∃x,w.cell? ⟨g,k,none⟩=some x)/\w.frozen? ⟨g,k,none⟩=false)
  (h4: ∀k,¬Cov bs n B k)
  (h5: ∀i j g l c l' c',i<n->j<n->bs i= .slice (some ⟨g,0,none⟩) l c->bs j= .slice (some ⟨g,0,none⟩) l' c'->0<l->0<l'->ms i=ms j)
  (hR: ∀w',zbx bs n w w'->(∀i g l c k,i<n->bs i= .slice (some ⟨g,0,none⟩) l c->k<l->w'.cell? ⟨g,k,none⟩=some (.int .u8 (dg (ms i) d:Nat)))->R (.returned (.tuple #[])) w'):
  Calls Tryz.prog 41 #[.pointer (some ⟨B,0,none⟩),.int .i64 (d:Nat)] w R:=by
 have HR:=zl hR
 have C1:=zl c1
 have C2:=zl c2
 have H1:=zl h1
 have H2:=zl h2
 have H3:=zl h3
 have H4:=zl h4
 have H5:=zl h5
 clear hR h1 h2 h3 h4 h5 c1 c2
 go_enter Tryz.func41,Tryz.ntmps41
 go_wp2_with fail
 go_loopw [4,5,6] (fun t _ _ wr=> ∃i:Nat,i<=n/\t= .int .i64 i/\zbx bs n w wr/\(∀j g l c k,j<i->bs j= .slice (some ⟨g,0,none⟩) l c->k<l->wr.cell? ⟨g,k,none⟩=some (.int .u8 (dg (ms j) d:Nat)))) (fun t _ _ _=>n-(intOf t).toNat)
 case atStart=>exact⟨0,Nat.zero_le _,rfl,zbx.refl _ _ _,fun j g l c k hj=>absurd hj (by omega)⟩
 case round=>
  obtain ⟨i,hi,rfl,hP,hD⟩:=hrel
  have c1:=(hP.cell B 1 (H4.o 1)).trans C1.out
  have c2:=(hP.cell B 2 (H4.o 2)).trans C2.out
  by_cases hin:i<n
  .obtain ⟨g1,rfl,hg1,hn1⟩:=H1.o i hin
   obtain ⟨g2,rfl,hg2,hn2⟩:=H2.o i hin
   obtain ⟨hmi,a,l,c,hbi,hl,hcs⟩:=H3.o i hin
   have HC:=zl hcs
   have HBI:=zl hbi
   rw[hbi] at hg1
   have hg1':=(hP.cell g1 i (hn1 i)).trans hg1
   have hg2':=(hP.cell g2 i (hn2 i)).trans hg2
   have HG1:=zl hg1
   have HN1:=zl hn1
   have HP:=zl hP
   have HD:=zl hD
   clear hbi hcs hg1 hg2 hn1 hn2 hP hD
   go_wp2_with fail
   refine zk3 _ d _ _ hmi hd ?_
   obtain ⟨x,hx⟩:=xq (dg (ms i) d)
   rw[←hx]
   have HXd:=zl hx
   clear hx
   go_wp2_with fail
   obtain ⟨wa,hwa⟩:=xq wr
   subst hwa
   clear c1 c2 hg1' hg2'
   go_loopw [6] (fun t wc=> ∃k:Nat,k<=l/\t= .int .i64 k/\zbx bs n w wc/\(∀j g l c q,j<i->bs j= .slice (some ⟨g,0,none⟩) l c->q<l->wc.cell? ⟨g,q,none⟩=some (.int .u8 (dg (ms j) d:Nat)))/\(∀g q,a=some ⟨g,0,none⟩->q<k->wc.cell? ⟨g,q,none⟩=some (.int .u8 (x:Nat)))) (fun t _=>l-(intOf t).toNat)
   case atStart=>exact⟨0,Nat.zero_le _,rfl,HP.o,HD.o,fun g q _ hq=>absurd hq (by omega)⟩
   case round=>
    obtain ⟨k,hk,rfl,hP2,hD2,hK2⟩:=hrel
    have c1:=(hP2.cell B 1 (H4.o 1)).trans C1.out
    have e1:=(hP2.cell g1 i (HN1.o i)).trans HG1.o
    have HP2:=zl hP2
    have HD2:=zl hD2
    have HK2:=zl hK2
    clear hP2 hD2 hK2
    by_cases hkl:k<l
    .obtain ⟨g3,rfl,⟨y,hy⟩,hfz⟩:=HC.o k hkl
     obtain ⟨y',hy'⟩:=HP2.o.some hy
     have hfz':=(HP2.o.frozen g3 k).trans hfz
     have hcov:Cov bs n g3 k:=⟨i,l,c,hin,HBI.o,hkl⟩
     have HE:Hid (zbx bs n w (wr.setCell ⟨g3,k,none⟩ (.int .u8 (x:Nat)))/\(∀j g l c q,j<i->bs j= .slice (some ⟨g,0,none⟩) l c->q<l->(wr.setCell ⟨g3,k,none⟩ (.int .u8 (x:Nat))).cell? ⟨g,q,none⟩=some (.int .u8 (dg (ms j) d:Nat)))/\(∀g q,some (⟨g3,0,none⟩:Addr)=some ⟨g,0,none⟩->q<k+1->(wr.setCell ⟨g3,k,none⟩ (.int .u8 (x:Nat))).cell? ⟨g,q,none⟩=some (.int .u8 (x:Nat)))):=by
      refine⟨HP2.o.trans (zbx.set hcov _),?_,?_⟩
      .intro j g l' c' q hj hbj hq
       by_cases he:g=g3/\q=k
       .obtain ⟨rfl,rfl⟩:=he
        rw[World.cell?_setCell_same _ _ _ hy',HXd.o,H5.o i j g l c l' c' hin (by omega) HBI.o hbj (by omega) (by omega)]
       .rw[World.cell?_setCell_other _ _ _ _ (by intro e;simp only[Addr.mk.injEq,and_true] at e;exact he ⟨e.1.symm,e.2.symm⟩)]
        exact HD2.o j g l' c' q hj hbj hq
      .intro g q hgq hq
       simp only[Option.some.injEq,Addr.mk.injEq,and_true] at hgq
       subst hgq
       by_cases he:q=k
       .subst he
        exact World.cell?_setCell_same _ _ _ hy'
       .rw[World.cell?_setCell_other _ _ _ _ (by intro e;simp only[Addr.mk.injEq,and_true,true_and] at e;exact he e.symm)]
        exact HK2.o g3 q rfl (by omega)
     clear hcov hfz hy
     go_wp2_with fail
     go_roundw
     case rel=>exact⟨k+1,by omega,by go_num,HE.o⟩
     case measure=>simp only[intOf];omega
    .have hk':k=l:=by omega
     subst hk'
     go_wp2_with fail
     go_roundw
     case rel=>
      refine⟨i+1,by omega,by go_num,HP2.o,?_⟩
      intro j g l' c' q hj hbj hq
      by_cases he:j=i
      .subst he
       have hb:=HBI.o
       rw[hbj] at hb
       simp only[Value.slice.injEq] at hb
       obtain ⟨h1,h2,_⟩:=hb
       rw[←HXd.o]
       exact HK2.o g q h1.symm (by omega)
      .exact HD2.o j g l' c' q (by omega) hbj hq
     case measure=>simp only[intOf];omega
  .have hfin:=zl (HR.o wr hP fun j g l c k hj=>hD j g l c k (by omega))
   clear hP hD
   go_wp2_with fail
   go_end0
   exact hfin.o
end
section
theorem Tryz.infoU8:(Tryz.prog.info? 5).map (fun i=>(i.zero,i.size,i.bytes))=some (some (.int .u8 0),1,1):=by kernel_rfl
theorem zlf (B:Nat)(v:Value)(n:Nat)(xs:List Int)(V:Int)(m:Nat)(w:World)(R:EW)
  (_hV1: -9223372036854775808<=V)(_hV2:V<=9223372036854775807)(hm:m<=8)(hn:n+m<=1073741824)(hB:B<=w.heap.size)
  (hown:w.ownsRow B 5 1 v n (xs.map bv))
  (hR: ∀v' w',Grew B 5 1 w v w' v' (n+m) ((xs++be V m).map bv)->R (.returned v') w'):
  Calls Tryz.prog 82 #[v,.int .i64 V,.int .i64 m] w R:=by
 have hR':=zl hR
 obtain ⟨i0,hi,hz0,hz1,hz2⟩:=info_parts Tryz.infoU8
 clear hR
 go_enter Tryz.func82,Tryz.ntmps82
 go_wp2
 go_loopw [0,7] (fun b i wr=> ∃j:Nat,j<=m/\i= .int .i64 ((m:Int)-1-j)/\Grew B 5 1 w v wr b (n+j) ((xs++(be V m).take j).map bv)) (fun _ i _=>(intOf i+1).toNat)
 case atStart=>exact⟨0,Nat.zero_le _,by simp,by simpa using Grew.refl hown⟩
 case round=>
  obtain ⟨j,hj,rfl,hG⟩:=hrel
  by_cases hlt:j<m
  .have hsz:=hG.grown.size
   obtain ⟨k,hk⟩: ∃k:Nat,(m:Int)-1-j=k:=⟨m-1-j,by omega⟩
   have hk8:k<8:=by omega
   have HK:=zl hk
   rw[hk]
   clear hR' _hV1 _hV2 hk
   have hB':B<=wr.heap.size:=by omega
   go_wp2_with (first|(at_builtin;go_must (refine za7 B 1 1 (n+j) _ _ _ hG.own hB' Tryz.infoU8 rfl (by decide) rfl ?c2 ?c3 (by decide) _ _ 31 Tryz.underlying31 rfl rfl rfl rfl ?_))|go_in)
   case c2=>rfl
   case c3=>omega
   .intro v1 w1 hG1
    have G:Hid (Grew B 5 1 w v w1 v1 (n+(j+1)) ((xs++(be V m).take (j+1)).map bv)):=(hG.trans hG1).cast rfl (by rw[be_take V m j k hlt HK.o];simp[bv,pow256])
    clear hG1
    go_wp2
    go_roundw
    case rel=>exact⟨j+1,by omega,by have:=HK.o;congr 1;omega,G.out⟩
    case measure=>simp[intOf]
  .have hj':j=m:=by omega
   subst hj'
   have hf:=hR'.o _ _ (hG.cast rfl (by rw[List.take_of_length_le (by rw[zb8];omega)]))
   have HF:=zl hf
   clear hf hR' hG
   go_wp2
   exact HF.o
theorem put_any (B:Nat)(v:Value)(n:Nat)(xs:List Int)(V:Int)(m:Nat)(w:World)(R:EW)
  (hV1:0<=V)(hV2:V<18446744073709551616)(hm:m<=8)(hn:n+m<=1073741824)(hB:B<=w.heap.size)
  (hown:w.ownsRow B 5 1 v n (xs.map bv))
  (hR: ∀v' w',Grew B 5 1 w v w' v' (n+m) ((xs++be V m).map bv)->R (.returned v') w'):
  Calls Tryz.prog 102 #[v,.int .u64 V,.int .i64 m] w R:=by
 have hR':=zl hR
 clear hR
 have HV:=zl hV2
 have HO:=zl hown
 clear hV2 hown
 go_enter Tryz.func102,Tryz.ntmps102
 go_wp2
 go_loopw [1,7,8] (fun t l i wr=> ∃k:Nat,k<=m/\i= .int .i64 k/\t= .int .u64 (V/256^k)/\Grew w.heap.size 5 1 w (.slice none 0 0) wr l k (((List.range k).map fun q=>V/256^q%256).map bv)) (fun _ _ i _=>m-(intOf i).toNat)
 case atStart=>exact⟨0,Nat.zero_le _,rfl,by simp,Grew.refl (World.ownsRow_nil _ _ _ _)⟩
 case round=>
  obtain ⟨k,hk,rfl,rfl,hG⟩:=hrel
  by_cases hlt:k<m
  .have hsz:=hG.grown.size
   have hq0:0<=V/256^k:=Int.ediv_nonneg hV1 (Int.pow_nonneg (by decide))
   have hst:V/256^k/256=V/256^(k+1):=by rw[Int.ediv_ediv_of_nonneg (Int.pow_nonneg (by decide)),Int.pow_succ]
   generalize hq:V/256^k=q at *
   have HQ:=zl hq
   have HS:=zl hst
   clear hR' hst hq
   go_wp2_with (first|(at_builtin;go_must (refine za7 w.heap.size 1 1 k _ _ _ hG.own hsz Tryz.infoU8 rfl (by decide) rfl ?c2 ?c3 (by decide) _ _ 31 Tryz.underlying31 rfl rfl rfl rfl ?_))|go_in)
   case c2=>rfl
   case c3=>omega
   .intro v1 w1 hG1
    have G:Hid (Grew w.heap.size 5 1 w (.slice none 0 0) w1 v1 (k+1) (((List.range (k+1)).map fun q=>V/256^q%256).map bv)):=(hG.trans hG1).cast rfl (by simp[List.range_succ,bv,HQ.o])
    clear hG1 hG
    have hq1:q<18446744073709551616:=by
     have h1:=HV.o
     have h2:=HQ.o
     have h3:V/256^k<=V:=Int.ediv_le_self _ hV1
     omega
    have HW:Hid (IntKind.u64.wrap (q.tdiv 256)=V/256^(k+1)):=by
     show _=_
     rw[Int.tdiv_eq_ediv_of_nonneg hq0,HS.o,u64_wrap _ (by rw[←HS.o];omega) (by rw[←HS.o];omega)]
    clear hq1
    go_wp2
    go_roundw
    case rel=>exact⟨k+1,by omega,by go_num,by rw[HW.o],G.out⟩
    case measure=>simp[intOf];omega
  .have hk':k=m:=by omega
   subst hk'
   obtain ⟨wa,hwa⟩:=xq wr
   subst hwa
   have hcells: ∀q,q<k-> ∃g cap,u7=Value.slice (some ⟨g,0,none⟩) k cap/\g<wa.heap.size/\w.heap.size<=g/\wa.cell? ⟨g,q,none⟩=some (.int .u8 (V/256^q%256)):=by
    intro q hq
    obtain ⟨g,cap,h1,h2,h3,_,h5,_⟩:=zee hG.own q (bv (V/256^q%256)) (by simp[hq])
    exact⟨g,cap,h1,h3,h2,h5⟩
   have HC:=zl hcells
   have hO1:wa.ownsRow B 5 1 v n (xs.map bv):=HO.o.kept hG.grown (by cases hv:v.ownBlock<;>simp[Value.ownBlock])
   have hvlt:=HO.o.lt
   have G1:Grew B 5 1 w v wa v n (xs.map bv):=⟨hO1,⟨hG.grown.os,hG.grown.tape,hG.grown.output,hG.grown.size,fun b hb _=>hG.grown.block b hb (by simp[Value.ownBlock])⟩,.inl rfl⟩
   have HG1:=zl G1
   have hsz:=hG.grown.size
   clear hcells hG G1
   have HO1:=zl hO1
   have HL:=zl hvlt
   clear hO1 hvlt
   go_wp2
   go_loopw [0,9] (fun b i w2=> ∃j:Nat,j<=k/\i= .int .i64 ((k:Int)-1-j)/\Grew B 5 1 wa v w2 b (n+j) ((xs++(be V k).take j).map bv)) (fun _ i _=>(intOf i+1).toNat)
   case atStart=>exact⟨0,Nat.zero_le _,by simp,by simpa using Grew.refl HO1.o⟩
   case round=>
    obtain ⟨j,hj,rfl,hG⟩:=hrel
    by_cases hlt:j<k
    .obtain ⟨i,hi⟩: ∃i:Nat,(k:Int)-1-j=i:=⟨k-1-j,by omega⟩
     have HK:=zl hi
     have hik:i<k:=by omega
     obtain ⟨g,cap,rfl,hg1,hg2,hc⟩:=HC.o i hik
     have hc2:wr.cell? ⟨g,i,none⟩=some (.int .u8 (V/256^i%256)):=by
      rw[hG.grown.cell_far ⟨g,i,none⟩ hg1 (fun e=>by have:=(HL.o g e.symm).2;omega)]
      exact hc
     have hB':B<=wr.heap.size:=by have:=hG.grown.size;omega
     rw[hi]
     clear hR' hi hc
     go_wp2_with (first|(at_builtin;go_must (refine za7 B 1 1 (n+j) _ _ _ hG.own hB' Tryz.infoU8 rfl (by decide) rfl ?c2 ?c3 (by decide) _ _ 31 Tryz.underlying31 rfl rfl rfl rfl ?_))|go_in)
     case c2=>rfl
     case c3=>omega
     .intro v1 w1 hG1
      have G:Hid (Grew B 5 1 wa v w1 v1 (n+(j+1)) ((xs++(be V k).take (j+1)).map bv)):=(hG.trans hG1).cast rfl (by rw[be_take V k j i hlt HK.o];simp[bv])
      clear hG1
      go_wp2
      go_roundw
      case rel=>exact⟨j+1,by omega,by have:=HK.o;congr 1;omega,G.out⟩
      case measure=>simp[intOf]
    .have hj':j=k:=by omega
     subst hj'
     have hf:=hR'.o _ _ (HG1.o.trans (hG.cast rfl (by rw[List.take_of_length_le (by rw[zb8];omega)])))
     have HF:=zl hf
     clear hf hR' hG
     go_wp2
     exact HF.o
end
section
theorem SameEvent_any (e f:Nat->Int)(w:World)(R:EW)(hR: ∀w',Below w.heap.size w w'->R (.returned (.bool (ze5 e f))) w'):
  Calls Tryz.prog 42 #[evv e,evv f] w R:=by
 have hR':=zl hR
 clear hR
 unfold evv
 go_enter Tryz.func42,Tryz.ntmps42
 go_wp2
 all_goals refine zam (hR'.o _ ((br.alloc nr _).alloc (by simp) _)) ?_
 all_goals clear hR'
 all_goals simp[ze5, *]
theorem zin (k:Int)(w:World)(R:EW)(hR:R (.returned (.bool (decide (1<=k/\k<=8)))) w):
  Calls Tryz.prog 79 #[.int .i64 k] w R:=by
 have hR':=zl hR
 clear hR
 go_enter Tryz.func79,Tryz.ntmps79
 go_wp2
 all_goals refine zam hR'.o ?_
 all_goals clear hR'
 all_goals simp
 all_goals omega
theorem ze7 (k:Int)(w:World)(R:EW)(hR:R (.returned (.bool (decide (0<=k/\k<=4294967295)))) w):
  Calls Tryz.prog 80 #[.int .i64 k] w R:=by
 have hR':=zl hR
 clear hR
 go_enter Tryz.func80,Tryz.ntmps80
 go_wp2
 all_goals refine zam hR'.o ?_
 all_goals clear hR'
 all_goals simp
 all_goals omega
theorem width_any (k:Int)(w:World)(R:EW)(hR:R (.returned (.int .i64 (if k=6 then 8 else 4))) w):
  Calls Tryz.prog 83 #[.int .i64 k] w R:=by
 have hR':=zl hR
 clear hR
 go_enter Tryz.func83,Tryz.ntmps83
 go_wp2
 all_goals refine zci hR'.o ?_
 all_goals clear hR'
 all_goals simp_all
theorem number_any (ba:Option Addr)(n c:Nat)(xs:Nat->Int)(at_:Nat)(w:World)(R:EW)(hn:n<=1073741824)(hat:at_+4<=n)
  (hx: ∀i,i<n-> ∃b o,ba=some ⟨b,o,none⟩/\w.cell? ⟨b,o+i,none⟩=some (.int .u8 (xs i)))(hb: ∀i,i<n->0<=xs i/\xs i<=255)
  (hR:R (.returned (.int .i64 (((xs at_ * 256+xs (at_+1)) * 256+xs (at_+2)) * 256+xs (at_+3)))) w):
  Calls Tryz.prog 104 #[.slice ba n c,.int .i64 at_] w R:=by
 have hR':=zl hR
 clear hR
 obtain ⟨b,o,rfl,c0⟩:=hx at_ (by omega)
 obtain ⟨b',o',e1,c1⟩:=hx (at_+1) (by omega)
 obtain ⟨b'',o'',e2,c2⟩:=hx (at_+2) (by omega)
 obtain ⟨b''',o''',e3,c3⟩:=hx (at_+3) (by omega)
 simp at e1 e2 e3
 obtain ⟨rfl,rfl⟩:=e1
 obtain ⟨rfl,rfl⟩:=e2
 obtain ⟨rfl,rfl⟩:=e3
 have b0:=hb at_ (by omega)
 have b1:=hb (at_+1) (by omega)
 have b2:=hb (at_+2) (by omega)
 have b3:=hb (at_+3) (by omega)
 clear hx hb
 go_enter Tryz.func104,Tryz.ntmps104
 go_wp2
 refine wp_loop_rounds 5 ?_
 rw[rounds_succ]
 go_wp2
 rw[rounds_succ]
 go_wp2
 rw[rounds_succ]
 go_wp2
 rw[rounds_succ]
 go_wp2
 rw[rounds_succ]
 go_wp2
 refine zci hR'.o ?_
 simp
end
section
def lay (k:Int):List Nat:=
 if k=1 then [0,4] else if k=2 then [0,1] else if k=3 then [2,3,4,5] else if k=4 then [0,4] else if k=5 then [0,4] else if k=6 then [5,4,6] else if k=7 then [5,4,6] else if k=8 then [7] else []
def layn (k:Int):List Nat:=
 if k=1 then [0,4] else if k=2 then [0,1] else if k=3 then [2,3,4,5] else if k=4 then [0,4] else if k=5 then [0,4] else if k=6 then [5,4] else if k=7 then [5,4] else if k=8 then [7] else []
def isK (k:Int):Bool:=decide (1<=k/\k<=8)
def isN (x:Int):Bool:=decide (0<=x/\x<=4294967295)
def wid (f:Nat):Nat:=if f=6 then 8 else 4
def fill (k s:Int) (xs:Nat->Int) (u:Int):Nat->Int:=fun j=>
 if j=0 then k else if j=1 then s else if j=8 then u else if (layn k).contains (j-2) then xs ((layn k).idxOf (j-2)) else 0
def fits (e:Nat->Int):Bool:=isK (e 0)&&isN (e 1)&&(lay (e 0)).all (fun f=>f==6||isN (e (f+2)))&&(List.range 8).all (fun f=>(lay (e 0)).contains f||e (f+2)==0)
def zdr (e:Nat->Int):List Int:=be (e 0) 1++be (e 1) 4++(lay (e 0)).flatMap fun f=>be (e (f+2)) (wid f)
theorem zcd (k:Int):k=1\/k=2\/k=3\/k=4\/k=5\/k=6\/k=7\/k=8\/isK k=false:=by
 simp only[isK,decide_eq_false_iff_not]
 omega
theorem isK_not {k:Int}(h:isK k=false):(k==1)=false/\(k==2)=false/\(k==3)=false/\(k==4)=false/\(k==5)=false/\(k==6)=false/\(k==7)=false/\(k==8)=false:=by
 simp only[isK,decide_eq_false_iff_not] at h
 simp only[beq_eq_false_iff_ne]
 omega
theorem zkt (k:Int):(lay k).length<=4:=by
 unfold lay
 repeat' split
 all_goals simp
theorem lay_lt (k:Int): ∀f∈lay k,f<8:=by
 unfold lay
 repeat' split
 all_goals simp
theorem lay_nodup (k:Int):(lay k).Nodup:=by
 unfold lay
 repeat' split
 all_goals simp
theorem lay_fresh (k:Int)(j:Nat)(h:j<(lay k).length):((lay k).take j).contains ((lay k).getD j 0)=false:=by
 have hd:=lay_nodup k
 simp only[List.getD_eq_getElem?_getD]
 rw[List.getElem?_eq_getElem h]
 simp only[Option.getD_some]
 rw[Bool.eq_false_iff]
 intro hc
 rw[List.contains_iff_mem] at hc
 obtain ⟨i,hi,he⟩:=List.getElem_of_mem hc
 simp only[List.length_take] at hi
 rw[List.getElem_take] at he
 have:=(List.getElem_inj hd).1 he
 omega
def zf6 (e:Nat->Int) (l:List Nat):Nat->Int:=fun i=>if l.contains i then 0 else e (i+2)
theorem struck_step (e:Nat->Int)(k:Int)(j:Nat)(h:j<(lay k).length):
  (fun i=>if i=(lay k).getD j 0 then 0 else zf6 e ((lay k).take j) i)=zf6 e ((lay k).take (j+1)):=by
 funext i
 rw[zag (lay k) j ((lay k).getD j 0) (by simp only[List.getD_eq_getElem?_getD];rw[List.getElem?_eq_getElem h];rfl)]
 generalize (lay k).getD j 0=g
 simp only[zf6,List.contains_iff_mem,List.mem_append,List.mem_singleton]
 by_cases hi:i=g
 .simp[hi]
 .simp[hi]
theorem zgd (e:Nat->Int): ∀i,i<10->(#[.int .i64 (e 0),.int .i64 (e 1),.int .i64 (e 2),.int .i64 (e 3),.int .i64 (e 4),.int .i64 (e 5),.int .i64 (e 6),.int .i64 (e 7),.int .i64 (e 8),.int .i64 (e 9)]:Array Value)[i]?=some (.int .i64 (e i)):=by
 intro i hi
 match i,hi with
 |0,_=>rfl
 |1,_=>rfl
 |2,_=>rfl
 |3,_=>rfl
 |4,_=>rfl
 |5,_=>rfl
 |6,_=>rfl
 |7,_=>rfl
 |8,_=>rfl
 |9,_=>rfl
theorem zhf (e:Nat->Int): ∀i,i<8->(#[.int .i64 (e 0),.int .i64 (e 1),.int .i64 (e 2),.int .i64 (e 3),.int .i64 (e 4),.int .i64 (e 5),.int .i64 (e 6),.int .i64 (e 7)]:Array Value)[i]?=some (.int .i64 (e i)):=by
 intro i hi
 match i,hi with
 |0,_=>rfl
 |1,_=>rfl
 |2,_=>rfl
 |3,_=>rfl
 |4,_=>rfl
 |5,_=>rfl
 |6,_=>rfl
 |7,_=>rfl
theorem zft {base:Nat}{e:TypeId}(w:World)(cur:Array Value)(n:Nat)(hb:base<=w.heap.size)(hn:cur.size=n)(hm:n<=1073741824):
  (w.alloc (.cells cur e)).ownsRow base e 1 (.slice (some ⟨w.heap.size,0,none⟩) n n) n cur.toList:=
 ⟨by simp[hn],.inr ⟨w.heap.size,n,cur,rfl,hb,heap_alloc_new w _,nr,by unfold maxLen;omega,by simp[hn],by rw[List.take_of_length_le];simp[hn]⟩⟩
structure Ints (W:World) (E n:Nat) (e:Nat->Int):Prop where
 cell: ∀i,i<n->W.cell? ⟨E,i,none⟩=some (.int .i64 (e i))
 free: ∀i,W.frozen? ⟨E,i,none⟩=false
 lt:E<W.heap.size
variable {E n:Nat} {e:Nat->Int} {W w1:World}
theorem Ints.below {B:Nat}(h:Ints W E n e)(hb:Below B W w1)(hB:E<B):Ints w1 E n e:=
 ⟨fun i hi=>(hb.cell hB).trans (h.cell i hi),fun i=>(hb.frozen hB).trans (h.free i),lll h.lt hb.size⟩
theorem Ints.ext (h:Ints W E n e)(hb:Below W.heap.size W w1):Ints w1 E n e:=h.below hb h.lt
theorem Ints.grown {r:Option Nat}(h:Ints W E n e)(hg:W.grownBy w1 r)(hr:r≠some E):Ints w1 E n e:=
 ⟨fun i hi=>(hg.cell_far ⟨E,i,none⟩ h.lt (Ne.symm hr)).trans (h.cell i hi),fun i=>(hg.frozen_far ⟨E,i,none⟩ h.lt (Ne.symm hr)).trans (h.free i),lll h.lt hg.size⟩
theorem Ints.new {w:World}{arr:Array Value}{t:TypeId}(n:Nat)(e:Nat->Int)(h: ∀i,i<n->arr[i]?=some (.int .i64 (e i))):Ints (w.alloc (.cells arr t)) w.heap.size n e:=by
 have hb:=heap_alloc_new w (.cells arr t)
 refine⟨fun i hi=>?_,fun i=>?_,by simp⟩
 .rw[cell_of_row _ _ i arr t (0,0) hb]
  exact h i hi
 .simp only[World.frozen?,hb]
  simp
theorem Ints.alloc (h:Ints W E n e)(o:Obj):Ints (W.alloc o) E n e:=
 h.ext (br.alloc nr _)
theorem Ints.store (h:Ints W E n e)(j:Nat)(x:Int):Ints (W.setCell ⟨E,j,none⟩ (.int .i64 x)) E n (fun i=>if i=j then x else e i):=by
 refine⟨fun i hi=>?_,fun i=>?_,by simpa using h.lt⟩
 .by_cases hij:i=j
  .subst hij
   simp only[if_pos]
   exact World.cell?_setCell_same _ _ _ (h.cell i hi)
  .rw[World.cell?_setCell_other _ _ _ _ (by intro hh;simp at hh<;>omega),if_neg hij]
   exact h.cell i hi
 .rw[World.frozen?_setCell]
  exact h.free i
theorem Ints.store_other {D j:Nat}{x:Value}(h:Ints W E n e)(hD:D≠E):Ints (W.setCell ⟨D,j,none⟩ x) E n e:=by
 refine⟨fun i hi=>?_,fun i=>?_,by simpa using h.lt⟩
 .rw[World.cell?_setCell_other _ _ _ _ (by intro hh;simp at hh<;>omega)]
  exact h.cell i hi
 .rw[World.frozen?_setCell]
  exact h.free i
end
section
def v8 (v:Nat->Int):Value:= .agg #[.int .i64 (v 0),.int .i64 (v 1),.int .i64 (v 2),.int .i64 (v 3),.int .i64 (v 4),.int .i64 (v 5),.int .i64 (v 6),.int .i64 (v 7)]
theorem values_any (e:Nat->Int)(w:World)(R:EW)(hR: ∀w',Below w.heap.size w w'->R (.returned (v8 fun f=>e (f+2))) w'):
  Calls Tryz.prog 81 #[evv e] w R:=by
 have hR':=zl hR
 clear hR
 unfold evv
 go_enter Tryz.func81,Tryz.ntmps81
 go_wp2
 exact bodyPost_ret (v:=v8 fun f=>e (f+2)) (by simp[results,Tryz.results81,go_sem,v8]) rfl (hR'.o _ ((br.alloc nr _).alloc (by simp) _))
theorem values_of (e:Nat->Int)(V:Value)(hV:V=evv e)(w:World)(R:EW)(hR: ∀w',Below w.heap.size w w'->R (.returned (v8 fun f=>e (f+2))) w'):
  Calls Tryz.prog 81 #[V] w R:=hV▸values_any e w R hR
theorem event_any (k s:Int)(v:Nat->Int)(w:World)(R:EW)(hR: ∀w',Below w.heap.size w w'->R (.returned (.agg #[.int .i64 k,.int .i64 s,.int .i64 (v 0),.int .i64 (v 1),.int .i64 (v 2),.int .i64 (v 3),.int .i64 (v 4),.int .i64 (v 5),.int .i64 (v 6),.int .i64 (v 7)])) w'):
  Calls Tryz.prog 87 #[.int .i64 k,.int .i64 s,v8 v] w R:=by
 have hR':=zl hR
 clear hR
 unfold v8
 go_enter Tryz.func87,Tryz.ntmps87
 go_wp2
 refine bodyPost_ret (v:= .agg #[.int .i64 k,.int .i64 s,.int .i64 (v 0),.int .i64 (v 1),.int .i64 (v 2),.int .i64 (v 3),.int .i64 (v 4),.int .i64 (v 5),.int .i64 (v 6),.int .i64 (v 7)]) (by simp[results,Tryz.results87,go_sem]) rfl (hR'.o _ ?_)
 exact(br.alloc nr _).alloc (by simp) _
def nums (e:Nat->Int):List Int:=(layn (e 0)).map fun f=>e (f+2)
theorem zdi {R:EW}{w:World}{o:Obj}{cur:Array Value}{b:Bool}(xs:List Int)(n:Nat)
  (hR: ∀v w',Below w.heap.size w w'->w'.ownsRow w.heap.size 3 1 v xs.length (xs.map iv)->R (.returned (.tuple #[v,.bool b])) w')
  (hx:cur.toList=xs.map iv)(hn:xs.length=n)(hm:n<=16):
  R (.returned (.tuple #[.slice (some ⟨w.heap.size+1,0,none⟩) n n,.bool b])) ((w.alloc o).alloc (.cells cur 3)):=by
 subst hn
 have hs:cur.size=xs.length:=by have:=congrArg List.length hx;simpa using this
 have h:=zft (base:=w.heap.size) (e:=3) (w.alloc o) cur xs.length (by simp) hs (by omega)
 rw[hx] at h
 simp only[World.size_alloc] at h
 exact hR _ _ ((br.alloc nr _).alloc (by simp) _) h
theorem Fields_any (e:Nat->Int)(w:World)(R:EW)
  (hR: ∀v w',Below w.heap.size w w'->w'.ownsRow w.heap.size 3 1 v (nums e).length ((nums e).map iv)->R (.returned (.tuple #[v,.bool (isK (e 0))])) w'):
  Calls Tryz.prog 100 #[evv e] w R:=by
 unfold evv
 rcases zcd (e 0) with h|h|h|h|h|h|h|h|h
 .have hR':Hid (∀v w',Below w.heap.size w w'->w'.ownsRow w.heap.size 3 1 v [e 2,e 6].length ([e 2,e 6].map iv)->R (.returned (.tuple #[v,.bool true])) w'):=by unfold Hid;simpa [nums,layn,isK,h] using hR
  clear hR
  go_enter Tryz.func100,Tryz.ntmps100
  go_wp2
  exact zdi [e 2,e 6] 2 hR'.o rfl rfl (by decide)
 .have hR':Hid (∀v w',Below w.heap.size w w'->w'.ownsRow w.heap.size 3 1 v [e 2,e 3].length ([e 2,e 3].map iv)->R (.returned (.tuple #[v,.bool true])) w'):=by unfold Hid;simpa [nums,layn,isK,h] using hR
  clear hR
  go_enter Tryz.func100,Tryz.ntmps100
  go_wp2
  exact zdi [e 2,e 3] 2 hR'.o rfl rfl (by decide)
 .have hR':Hid (∀v w',Below w.heap.size w w'->w'.ownsRow w.heap.size 3 1 v [e 4,e 5,e 6,e 7].length ([e 4,e 5,e 6,e 7].map iv)->R (.returned (.tuple #[v,.bool true])) w'):=by unfold Hid;simpa [nums,layn,isK,h] using hR
  clear hR
  go_enter Tryz.func100,Tryz.ntmps100
  go_wp2
  exact zdi [e 4,e 5,e 6,e 7] 4 hR'.o rfl rfl (by decide)
 .have hR':Hid (∀v w',Below w.heap.size w w'->w'.ownsRow w.heap.size 3 1 v [e 2,e 6].length ([e 2,e 6].map iv)->R (.returned (.tuple #[v,.bool true])) w'):=by unfold Hid;simpa [nums,layn,isK,h] using hR
  clear hR
  go_enter Tryz.func100,Tryz.ntmps100
  go_wp2
  exact zdi [e 2,e 6] 2 hR'.o rfl rfl (by decide)
 .have hR':Hid (∀v w',Below w.heap.size w w'->w'.ownsRow w.heap.size 3 1 v [e 2,e 6].length ([e 2,e 6].map iv)->R (.returned (.tuple #[v,.bool true])) w'):=by unfold Hid;simpa [nums,layn,isK,h] using hR
  clear hR
  go_enter Tryz.func100,Tryz.ntmps100
  go_wp2
  exact zdi [e 2,e 6] 2 hR'.o rfl rfl (by decide)
 .have hR':Hid (∀v w',Below w.heap.size w w'->w'.ownsRow w.heap.size 3 1 v [e 7,e 6].length ([e 7,e 6].map iv)->R (.returned (.tuple #[v,.bool true])) w'):=by unfold Hid;simpa [nums,layn,isK,h] using hR
  clear hR
  go_enter Tryz.func100,Tryz.ntmps100
  go_wp2
  exact zdi [e 7,e 6] 2 hR'.o rfl rfl (by decide)
 .have hR':Hid (∀v w',Below w.heap.size w w'->w'.ownsRow w.heap.size 3 1 v [e 7,e 6].length ([e 7,e 6].map iv)->R (.returned (.tuple #[v,.bool true])) w'):=by unfold Hid;simpa [nums,layn,isK,h] using hR
  clear hR
  go_enter Tryz.func100,Tryz.ntmps100
  go_wp2
  exact zdi [e 7,e 6] 2 hR'.o rfl rfl (by decide)
 .have hR':Hid (∀v w',Below w.heap.size w w'->w'.ownsRow w.heap.size 3 1 v [e 9].length ([e 9].map iv)->R (.returned (.tuple #[v,.bool true])) w'):=by unfold Hid;simpa [nums,layn,isK,h] using hR
  clear hR
  go_enter Tryz.func100,Tryz.ntmps100
  go_wp2
  exact zdi [e 9] 1 hR'.o rfl rfl (by decide)
 .obtain ⟨h1,h2,h3,h4,h5,h6,h7,h8⟩:=isK_not h
  have hn:nums e=[]:=by simp only[beq_eq_false_iff_ne] at h1 h2 h3 h4 h5 h6 h7 h8;simp[nums,layn, *]
  have hR':Hid (R (.returned (.tuple #[.slice none 0 0,.bool false])) (w.alloc (.cells #[.int .i64 (e 0),.int .i64 (e 1),.int .i64 (e 2),.int .i64 (e 3),.int .i64 (e 4),.int .i64 (e 5),.int .i64 (e 6),.int .i64 (e 7),.int .i64 (e 8),.int .i64 (e 9)] 42))):=by
   have:=hR (.slice none 0 0) _ (br.alloc nr (.cells #[.int .i64 (e 0),.int .i64 (e 1),.int .i64 (e 2),.int .i64 (e 3),.int .i64 (e 4),.int .i64 (e 5),.int .i64 (e 6),.int .i64 (e 7),.int .i64 (e 8),.int .i64 (e 9)] 42)) (by rw[hn];exact World.ownsRow_nil _ _ _ _)
   rw[h] at this
   exact this
  clear hR h hn
  go_enter Tryz.func100,Tryz.ntmps100
  go_wp2
  exact hR'.o
theorem zlj (e:Nat->Int)(V:Value)(hV:V=evv e)(w:World)(R:EW)
  (hR: ∀v w',Below w.heap.size w w'->w'.ownsRow w.heap.size 3 1 v (nums e).length ((nums e).map iv)->R (.returned (.tuple #[v,.bool (isK (e 0))])) w'):
  Calls Tryz.prog 100 #[V] w R:=hV▸Fields_any e w R hR
end
