import Derived.Test.YtmiiejinahnpkaaGreatDoorBi
set_option maxRecDepth 8000
set_option maxHeartbeats 4000000
namespace Go.Proofs.YtmiiejinahnpkaaGreatDoor
open Go.RowKit
section
attribute [local go_sem↓] Go.wp_at_zero Go.wp_at_succ
def zjn (w:World) (a:Option Addr) (n:Nat) (vs:Nat->Value):Prop:= ∀i,i<n-> ∃g,a=some ⟨g,0,none⟩/\w.cell? ⟨g,i,none⟩=some (vs i)
variable {n:Nat} {vs:Nat->Value} {w w':World}
theorem zjn.ext {a:Option Addr}(h:zjn w a n vs)(hb:Below w.heap.size w w'):zjn w' a n vs:=by
 intro i hi
 obtain ⟨g,h1,h2⟩:=h i hi
 exact⟨g,h1,(hb.cell (zab h2)).trans h2⟩
def kev (m:Int):Nat->Int:=fun j=>if j=0 then m else 0
def EvLists (w:World) (n:Nat) (vs:Nat->Value) (ms:Nat->Int):Prop:= ∀i,i<n-> ∃a l c,vs i= .slice a l c/\l<=1073741824/\ ∀k,k<l-> ∃g,a=some ⟨g,0,none⟩/\ ∀j,j<10->w.cell? ⟨g,k * 10+j,none⟩=some (.int .i64 (kev (ms i) j))
def zlk (w:World) (n:Nat) (vs:Nat->Value) (x:Nat->Nat):Prop:= ∀i,i<n-> ∃a l c,vs i= .slice a l c/\l<=1073741824/\ ∀k,k<l-> ∃g,a=some ⟨g,0,none⟩/\w.cell? ⟨g,k,none⟩=some (.int .u8 (x i:Nat))/\w.frozen? ⟨g,k,none⟩=false
theorem zlk.ext {x:Nat->Nat}(h:zlk w n vs x)(hb:Below w.heap.size w w'):zlk w' n vs x:=by
 intro i hi
 obtain ⟨a,l,c,h1,h2,h3⟩:=h i hi
 refine⟨a,l,c,h1,h2,fun k hk=>?_⟩
 obtain ⟨g,h4,h5,h6⟩:=h3 k hk
 exact⟨g,h4,(hb.cell (zab h5)).trans h5,(hb.frozen (zab h5)).trans h6⟩
theorem zke (m:Int):ze5 (kev m) (kev m)=true:=(zgj _ _).2 fun _ _=>rfl
def kod (m:Int) (j:Nat):Value:=if j=0 then .int .i64 m else if j=5 then .bool false else .int .i64 0
def OrLists (w:World) (n:Nat) (vs:Nat->Value) (ms:Nat->Int):Prop:= ∀i,i<n-> ∃a l c,vs i= .slice a l c/\l<=1073741824/\ ∀k,k<l-> ∃g,a=some ⟨g,0,none⟩/\ ∀j,j<6->w.cell? ⟨g,k * 6+j,none⟩=some (kod (ms i) j)
structure Held (w:World) (B:Nat) (ab ao ae am ai al:Option Addr) (n cb co ne ce cm ni ci nl cl:Nat) (aq ak:Option Addr) (nq cq ck:Nat) (bs:Nat->Value) (ms:Nat->Nat) (es:Nat->Value) (em:Nat->Int) (is_ ls qs:Nat->Value) (qm:Nat->Int):Prop where
 c1:w.cell? ⟨B,1,none⟩=some (.slice ab n cb)
 c2:w.cell? ⟨B,2,none⟩=some (.slice ao n co)
 c3:w.cell? ⟨B,3,none⟩=some (.slice aq nq cq)
 c4:w.cell? ⟨B,4,none⟩=some (.slice ak nq ck)
 c5:w.cell? ⟨B,5,none⟩=some (.slice ae ne ce)
 c6:w.cell? ⟨B,6,none⟩=some (.slice am ne cm)
 c7:w.cell? ⟨B,7,none⟩=some (.slice ai ni ci)
 c8:w.cell? ⟨B,8,none⟩=some (.slice al nl cl)
 hn:n<=1073741824/\ne<=1073741824/\ni<=1073741824/\nl<=1073741824/\nq<=1073741824
 hm: ∀i,i<n->ms i<=1073741824
 s1:zjn w ab n bs
 s2:zjn w ao n fun i=> .int .i64 (ms i:Nat)
 s3:zjn w aq nq qs
 s4:zjn w ak nq fun i=> .int .i64 (qm i)
 s5:zjn w ae ne es
 s6:zjn w am ne fun i=> .int .i64 (em i)
 s7:zjn w ai ni is_
 s8:zjn w al nl ls
 lb:zlk w n bs fun i=>dg (ms i) 0
 lq:OrLists w nq qs qm
 le:EvLists w ne es em
 li:zlk w ni is_ fun _=>77
 ll:EvLists w nl ls fun _=> -7
 nB: ∀k,¬Cov bs n B k
 n1: ∀g k,ab=some ⟨g,0,none⟩-> ¬Cov bs n g k
 n2: ∀g k,ao=some ⟨g,0,none⟩-> ¬Cov bs n g k
 one: ∀i j g l c l' c',i<n->j<n->bs i= .slice (some ⟨g,0,none⟩) l c->bs j= .slice (some ⟨g,0,none⟩) l' c'->0<l->0<l'->ms i=ms j
theorem below_alloc1' (w:World)(o:Obj):Below w.heap.size w (w.alloc o):=br.alloc nr o
theorem kept_any {B:Nat}{ab ao ae am ai al:Option Addr}{cb co ne ce cm ni ci nl cl:Nat}{aq ak:Option Addr}{nq cq ck:Nat}{bs:Nat->Value}{ms:Nat->Nat}{es:Nat->Value}{em:Nat->Int}{is_ ls qs:Nat->Value}{qm:Nat->Int}
  (h:Held w B ab ao ae am ai al n cb co ne ce cm ni ci nl cl aq ak nq cq ck bs ms es em is_ ls qs qm)(R:EW)
  (hR: ∀w',Below w.heap.size w w'->R (.returned (.bool true)) w'):
  Calls Tryz.prog 14 #[.pointer (some ⟨B,0,none⟩)] w R:=by
 have HR:=zl hR
 have HH:=zl h
 obtain ⟨hn,hne,hni,hnl,hnq⟩:=h.hn
 have HW:Hid (∀wr x,zbx bs n w wr->(∀i g l c k,i<n->bs i= .slice (some ⟨g,0,none⟩) l c->k<l->wr.cell? ⟨g,k,none⟩=some (.int .u8 (dg (ms i) x:Nat)))->
   wr.cell? ⟨B,1,none⟩=some (.slice ab n cb)/\wr.cell? ⟨B,2,none⟩=some (.slice ao n co)/\
   (∀i,i<n-> ∃g,ab=some ⟨g,0,none⟩/\wr.cell? ⟨g,i,none⟩=some (bs i)/\ ∀k,¬Cov bs n g k)/\
   (∀i,i<n-> ∃g,ao=some ⟨g,0,none⟩/\wr.cell? ⟨g,i,none⟩=some (.int .i64 (ms i:Nat))/\ ∀k,¬Cov bs n g k)/\
   (∀i,i<n->ms i<=1073741824/\ ∃a l c,bs i= .slice a l c/\l<=1073741824/\ ∀k,k<l-> ∃g,a=some ⟨g,0,none⟩/\wr.cell? ⟨g,k,none⟩=some (.int .u8 (dg (ms i) x:Nat))/\wr.frozen? ⟨g,k,none⟩=false)):=by
  intro wr x hP hx
  refine⟨(hP.cell B 1 (h.nB 1)).trans h.c1,(hP.cell B 2 (h.nB 2)).trans h.c2,?_,?_,?_⟩
  .intro i hi
   obtain ⟨g,h1,h2⟩:=h.s1 i hi
   exact⟨g,h1,(hP.cell g i (h.n1 g i h1)).trans h2,fun k=>h.n1 g k h1⟩
  .intro i hi
   obtain ⟨g,h1,h2⟩:=h.s2 i hi
   exact⟨g,h1,(hP.cell g i (h.n2 g i h1)).trans h2,fun k=>h.n2 g k h1⟩
  .intro i hi
   obtain ⟨a,l,c,h1,h2,h3⟩:=h.lb i hi
   refine⟨h.hm i hi,a,l,c,h1,h2,fun k hk=>?_⟩
   obtain ⟨g,h4,_,h6⟩:=h3 k hk
   exact⟨g,h4,hx i g l c k hi (by rw[h1,h4]) hk,(hP.frozen g k).trans h6⟩
 have HX0:Hid (∀i g l c k,i<n->bs i= .slice (some ⟨g,0,none⟩) l c->k<l->w.cell? ⟨g,k,none⟩=some (.int .u8 (dg (ms i) 0:Nat))):=by
  intro i g l c k hi hbi hk
  obtain ⟨a,l',c',h1,_,h3⟩:=h.lb i hi
  rw[hbi] at h1
  simp only[Value.slice.injEq] at h1
  obtain ⟨ha,rfl,_⟩:=h1
  obtain ⟨g',h4,h5,_⟩:=h3 k hk
  rw[←ha] at h4
  simp only[Option.some.injEq,Addr.mk.injEq,and_true] at h4
  rw[h4]
  exact h5
 clear h hR
 go_enter Tryz.func14,Tryz.ntmps14
 go_wp2_with fail
 obtain ⟨r1,r2,r3,r4,r5⟩:=HW.o w 0 (zbx.refl _ _ _) HX0.o
 refine read_any B ab ao n cb co 0 bs ms _ _ r1 r2 hn (by decide) (fun i hi=>by obtain ⟨g,q1,q2,_⟩:=r3 i hi;exact⟨g,q1,q2⟩) (fun i hi=>by obtain ⟨g,q1,q2,_⟩:=r4 i hi;exact⟨g,q1,q2⟩) (fun i hi=>by obtain ⟨q0,a,l,c,q1,q2,q3⟩:=r5 i hi;exact⟨q0,a,l,c,q1,q2,fun k hk=>by obtain ⟨g,q4,q5,_⟩:=q3 k hk;exact⟨g,q4,q5⟩⟩) ?_
 clear r1 r2 r3 r4 r5
 go_wp2_with fail
 go_loopw [3,4] (fun t i wr=> ∃e:Nat,e<=4/\t= .bool true/\i= .int .i64 ((e:Int)-1)/\zbx bs n w wr/\(∀i g l c k,i<n->bs i= .slice (some ⟨g,0,none⟩) l c->k<l->wr.cell? ⟨g,k,none⟩=some (.int .u8 (dg (ms i) (if e=4 then 0 else e):Nat)))) (fun _ i _=>(intOf i+1).toNat)
 case atStart=>exact⟨4,by omega,rfl,rfl,zbx.refl _ _ _,HX0.o⟩
 case round=>
  obtain ⟨e,he,rfl,rfl,hP,hX⟩:=hrel
  by_cases he0:0<e
  .obtain ⟨d,rfl⟩: ∃d,e=d+1:=⟨e-1,by omega⟩
   have hd:(((d+1:Nat):Int)-1)=(d:Int):=by omega
   rw[hd]
   have HP:=zl hP
   have HX:=zl hX
   clear hP hX hd
   go_wp2_with fail
   obtain ⟨r1,r2,r3,r4,r5⟩:=HW.o wr _ HP.o HX.o
   refine write_any B ab ao n cb co d bs ms _ _ r1 r2 hn (by omega) r3 r4 (fun i hi=>by obtain ⟨q0,a,l,c,q1,q2,q3⟩:=r5 i hi;exact⟨q0,a,l,c,q1,q2,fun k hk=>by obtain ⟨g,q4,q5,q6⟩:=q3 k hk;exact⟨g,q4,⟨_,q5⟩,q6⟩⟩) HH.o.nB HH.o.one ?_
   intro w1 hP1 hX1
   have HP1:=zl (HP.o.trans hP1)
   have HX1:=zl hX1
   clear r1 r2 r3 r4 r5 hP1 hX1
   go_wp2_with fail
   obtain ⟨r1,r2,r3,r4,r5⟩:=HW.o w1 _ HP1.o HX1.o
   refine read_any B ab ao n cb co d bs ms _ _ r1 r2 hn (by omega) (fun i hi=>by obtain ⟨g,q1,q2,_⟩:=r3 i hi;exact⟨g,q1,q2⟩) (fun i hi=>by obtain ⟨g,q1,q2,_⟩:=r4 i hi;exact⟨g,q1,q2⟩) (fun i hi=>by obtain ⟨q0,a,l,c,q1,q2,q3⟩:=r5 i hi;exact⟨q0,a,l,c,q1,q2,fun k hk=>by obtain ⟨g,q4,q5,_⟩:=q3 k hk;exact⟨g,q4,q5⟩⟩) ?_
   clear r1 r2 r3 r4 r5
   go_wp2_with fail
   go_roundw
   case rel=>exact⟨d,by omega,rfl,by congr 1,HP1.o,by rw[if_neg (by omega)];exact HX1.o⟩
   case measure=>simp only[intOf];omega
  .have he':e=0:=by omega
   subst he'
   rw[show ((0:Nat):Int)-1= -1 from rfl]
   have hBl:Below w.heap.size w wr:=by
    have hs:=hP.same (fun g k hc=>by
     obtain ⟨i,l,c,hi,hbi,hk⟩:=hc
     rw[hX i g l c k hi hbi hk,HX0.o i g l c k hi hbi hk]
     rfl)
    exact⟨hP.os,hP.tape,hP.output,Nat.le_of_eq hP.size.symm,fun k _=>hs k⟩
   have HBl:=zl hBl
   clear hP hX hBl
   obtain ⟨wa,hwa⟩:=xq wr
   subst hwa
   go_wp2_with fail
   go_loopw [5,6,7] (fun t _ _ wr=> ∃i:Nat,i<=nq/\t= .int .i64 i/\Below w.heap.size w wr) (fun t _ _ _=>nq-(intOf t).toNat)
   case atStart=>exact⟨0,Nat.zero_le _,rfl,HBl.o⟩
   case round=>
    obtain ⟨i,hi,rfl,hB1⟩:=hrel
    have HB1:=zl hB1
    have c3:=(hB1.cell (zab HH.o.c3)).trans HH.o.c3
    clear hB1
    by_cases hin:i<nq
    .obtain ⟨g1,hae,hg1⟩:=HH.o.s3.ext HB1.o i hin
     obtain ⟨g2,ham,hg2⟩:=HH.o.s4.ext HB1.o i hin
     subst hae
     subst ham
     obtain ⟨a,l,c,hbi,hl,hcs⟩:=HH.o.lq i hin
     have HC:=zl hcs
     have HG2:Hid (w.cell? ⟨g2,i,none⟩=some (.int .i64 (qm i))):=by obtain ⟨g,q1,q2⟩:=HH.o.s4 i hin;simp only[Option.some.injEq,Addr.mk.injEq,and_true] at q1;rw[q1];exact q2
     have HG1:Hid (w.cell? ⟨g1,i,none⟩=some (.slice a l c)):=by obtain ⟨g,q1,q2⟩:=HH.o.s3 i hin;simp only[Option.some.injEq,Addr.mk.injEq,and_true] at q1;rw[q1,←hbi];exact q2
     rw[hbi] at hg1
     clear hbi hcs hg2
     go_wp2_with fail
     obtain ⟨wb,hwb⟩:=xq wr
     subst hwb
     clear c3 hg1
     go_loopw [6,7] (fun t _ wr=> ∃k:Nat,k<=l/\t= .int .i64 k/\Below w.heap.size w wr) (fun t _ _=>l-(intOf t).toNat)
     case atStart=>exact⟨0,Nat.zero_le _,rfl,HB1.o⟩
     case round=>
      obtain ⟨k,hk,rfl,hB2⟩:=hrel
      have HB2:=zl hB2
      have c3:=(hB2.cell (zab HH.o.c3)).trans HH.o.c3
      have c4:=(hB2.cell (zab HH.o.c4)).trans HH.o.c4
      have e1:=(hB2.cell (zab HG1.o)).trans HG1.o
      have e2:=(hB2.cell (zab HG2.o)).trans HG2.o
      clear hB2
      by_cases hkl:k<l
      .obtain ⟨g3,rfl,hg3⟩:=HC.o k hkl
       have e3: ∀j,j<6->wr.cell? ⟨g3,k * 6+j,none⟩=some (kod (qm i) j):=fun j hj=>(HB2.o.cell (zab (hg3 j hj))).trans (hg3 j hj)
       have e30:wr.cell? ⟨g3,k * 6,none⟩=some (.int .i64 (qm i)):=e3 0 (by decide)
       have e31:wr.cell? ⟨g3,k * 6+1,none⟩=some (.int .i64 0):=e3 1 (by decide)
       have e32:wr.cell? ⟨g3,k * 6+2,none⟩=some (.int .i64 0):=e3 2 (by decide)
       have e33:wr.cell? ⟨g3,k * 6+3,none⟩=some (.int .i64 0):=e3 3 (by decide)
       have e34:wr.cell? ⟨g3,k * 6+4,none⟩=some (.int .i64 0):=e3 4 (by decide)
       have e35:wr.cell? ⟨g3,k * 6+5,none⟩=some (.bool false):=e3 5 (by decide)
       clear hg3 e3
       have hlb:=zab c3
       have hl1:=zab e1
       have hl2:=zab e2
       have hl3:=zab e30
       have hx:((qm i:Int) !=qm i)=false:=by simp
       have hbo:=below_alloc1' wr (.cells #[.int .i64 (qm i),.int .i64 0,.int .i64 0,.int .i64 0,.int .i64 0,.bool false] 89)
       have hoB:=heap_alloc_new wr (.cells #[.int .i64 (qm i),.int .i64 0,.int .i64 0,.int .i64 0,.int .i64 0,.bool false] 89)
       have o0:(wr.alloc (.cells #[.int .i64 (qm i),.int .i64 0,.int .i64 0,.int .i64 0,.int .i64 0,.bool false] 89)).cell? ⟨wr.heap.size,0,none⟩=some (.int .i64 (qm i)):=by rw[cell_of_row _ _ 0 _ _ (0,0) hoB];rfl
       have o1:(wr.alloc (.cells #[.int .i64 (qm i),.int .i64 0,.int .i64 0,.int .i64 0,.int .i64 0,.bool false] 89)).cell? ⟨wr.heap.size,1,none⟩=some (.int .i64 0):=by rw[cell_of_row _ _ 1 _ _ (0,0) hoB];rfl
       have o2:(wr.alloc (.cells #[.int .i64 (qm i),.int .i64 0,.int .i64 0,.int .i64 0,.int .i64 0,.bool false] 89)).cell? ⟨wr.heap.size,2,none⟩=some (.int .i64 0):=by rw[cell_of_row _ _ 2 _ _ (0,0) hoB];rfl
       have o3:(wr.alloc (.cells #[.int .i64 (qm i),.int .i64 0,.int .i64 0,.int .i64 0,.int .i64 0,.bool false] 89)).cell? ⟨wr.heap.size,3,none⟩=some (.int .i64 0):=by rw[cell_of_row _ _ 3 _ _ (0,0) hoB];rfl
       have o4:(wr.alloc (.cells #[.int .i64 (qm i),.int .i64 0,.int .i64 0,.int .i64 0,.int .i64 0,.bool false] 89)).cell? ⟨wr.heap.size,4,none⟩=some (.int .i64 0):=by rw[cell_of_row _ _ 4 _ _ (0,0) hoB];rfl
       have o5:(wr.alloc (.cells #[.int .i64 (qm i),.int .i64 0,.int .i64 0,.int .i64 0,.int .i64 0,.bool false] 89)).cell? ⟨wr.heap.size,5,none⟩=some (.bool false):=by rw[cell_of_row _ _ 5 _ _ (0,0) hoB];rfl
       have p4:=(hbo.cell (zab c4)).trans c4
       have p2:=(hbo.cell (zab e2)).trans e2
       have HBo:Hid (Below w.heap.size w (wr.alloc (.cells #[.int .i64 (qm i),.int .i64 0,.int .i64 0,.int .i64 0,.int .i64 0,.bool false] 89))):=HB2.o.trans (hbo.mono HB2.o.size)
       go_wp2_with fail
       clear hbo hoB c3 c4 e1 e2 e30 e31 e32 e33 e34 e35
       generalize wr.alloc (.cells #[.int .i64 (qm i),.int .i64 0,.int .i64 0,.int .i64 0,.int .i64 0,.bool false] 89)=W at *
       have hi0:(0:Int)<=(i:Int):=by omega
       have hi1:(i:Int)<(nq:Int):=by omega
       go_quiet (fail)
       have HBd:Hid (Below w.heap.size w (W.drewN nq)):=⟨HBo.o.os,HBo.o.tape,HBo.o.output,HBo.o.size,HBo.o.block⟩
       clear HBo o0 o1 o2 o3 o4 o5 p4 p2
       generalize W.drewN nq=Wd at *
       go_wp2_with fail
       go_roundw
       case rel=>exact⟨k+1,by omega,by go_num,HBd.o⟩
       case measure=>simp only[intOf];omega
      .go_wp2_with fail
       go_roundw
       case rel=>exact⟨i+1,by omega,by go_num,HB2.o⟩
       case measure=>simp only[intOf];omega
    .go_wp2_with fail
     clear c3
     have HBl:Hid (Below w.heap.size w wr):=HB1.o
     clear HB1
     obtain ⟨wa2,hwa2⟩:=xq wr
     subst hwa2
     go_loopw [8,9,10] (fun t _ _ wr=> ∃i:Nat,i<=ne/\t= .int .i64 i/\Below w.heap.size w wr) (fun t _ _ _=>ne-(intOf t).toNat)
     case atStart=>exact⟨0,Nat.zero_le _,rfl,HBl.o⟩
     case round=>
      obtain ⟨i,hi,rfl,hB1⟩:=hrel
      have HB1:=zl hB1
      have c5:=(hB1.cell (zab HH.o.c5)).trans HH.o.c5
      clear hB1
      by_cases hin:i<ne
      .obtain ⟨g1,hae,hg1⟩:=HH.o.s5.ext HB1.o i hin
       obtain ⟨g2,ham,hg2⟩:=HH.o.s6.ext HB1.o i hin
       subst hae
       subst ham
       obtain ⟨a,l,c,hbi,hl,hcs⟩:=HH.o.le i hin
       have HC:=zl hcs
       have HG2:Hid (w.cell? ⟨g2,i,none⟩=some (.int .i64 (em i))):=by obtain ⟨g,q1,q2⟩:=HH.o.s6 i hin;simp only[Option.some.injEq,Addr.mk.injEq,and_true] at q1;rw[q1];exact q2
       have HG1:Hid (w.cell? ⟨g1,i,none⟩=some (.slice a l c)):=by obtain ⟨g,q1,q2⟩:=HH.o.s5 i hin;simp only[Option.some.injEq,Addr.mk.injEq,and_true] at q1;rw[q1,←hbi];exact q2
       rw[hbi] at hg1
       clear hbi hcs hg2
       go_wp2_with fail
       obtain ⟨wb,hwb⟩:=xq wr
       subst hwb
       clear c5 hg1
       go_loopw [9,10] (fun t _ wr=> ∃k:Nat,k<=l/\t= .int .i64 k/\Below w.heap.size w wr) (fun t _ _=>l-(intOf t).toNat)
       case atStart=>exact⟨0,Nat.zero_le _,rfl,HB1.o⟩
       case round=>
        obtain ⟨k,hk,rfl,hB2⟩:=hrel
        have HB2:=zl hB2
        have c5:=(hB2.cell (zab HH.o.c5)).trans HH.o.c5
        have c6:=(hB2.cell (zab HH.o.c6)).trans HH.o.c6
        have e1:=(hB2.cell (zab HG1.o)).trans HG1.o
        have e2:=(hB2.cell (zab HG2.o)).trans HG2.o
        clear hB2
        by_cases hkl:k<l
        .obtain ⟨g3,rfl,hg3⟩:=HC.o k hkl
         have e3: ∀j,j<10->wr.cell? ⟨g3,k * 10+j,none⟩=some (.int .i64 (kev (em i) j)):=fun j hj=>(HB2.o.cell (zab (hg3 j hj))).trans (hg3 j hj)
         have e30:=e3 0 (by decide)
         rw[Nat.add_zero] at e30
         clear hg3
         have hi0:(0:Int)<=(i:Int):=by omega
         have hi1:(i:Int)<(ne:Int):=by omega
         have hk0:(0:Int)<=(k:Int):=by omega
         have hk1:(k:Int)<(l:Int):=by omega
         have hst:ze5 (kev (em i)) (kev (em i))=true:=zke _
         have KB: ∀{w1:World} (_:Below wr.heap.size wr w1) (x:Addr) (v:Value),wr.cell? x=some v->w1.cell? x=some v:=fun {w1} h x v hx=>(h.cell (World.block_lt_of_cell? wr x hx)).trans hx
         go_wp2_with fail
         go_region_held3 (fun w'=>w'.cell? ⟨B,5,none⟩=some (.slice (some ⟨g1,0,none⟩) ne ce)/\w'.cell? ⟨g1,i,none⟩=some (.slice (some ⟨g3,0,none⟩) l c)/\w'.cell? ⟨g3,k * 10,none⟩=some (.int .i64 (kev (em i) 0))/\w'.cell? ⟨g3,k * 10+1,none⟩=some (.int .i64 (kev (em i) 1))/\w'.cell? ⟨g3,k * 10+2,none⟩=some (.int .i64 (kev (em i) 2))/\w'.cell? ⟨g3,k * 10+3,none⟩=some (.int .i64 (kev (em i) 3))/\w'.cell? ⟨g3,k * 10+4,none⟩=some (.int .i64 (kev (em i) 4))/\w'.cell? ⟨g3,k * 10+5,none⟩=some (.int .i64 (kev (em i) 5))/\w'.cell? ⟨g3,k * 10+6,none⟩=some (.int .i64 (kev (em i) 6))/\w'.cell? ⟨g3,k * 10+7,none⟩=some (.int .i64 (kev (em i) 7))/\w'.cell? ⟨g3,k * 10+8,none⟩=some (.int .i64 (kev (em i) 8))/\w'.cell? ⟨g3,k * 10+9,none⟩=some (.int .i64 (kev (em i) 9))/\w'.cell? ⟨B,6,none⟩=some (.slice (some ⟨g2,0,none⟩) ne cm)/\w'.cell? ⟨g2,i,none⟩=some (.int .i64 (em i))) (first|go_keep|exact⟨KB hb5 _ _ c5,KB hb5 _ _ e1,KB hb5 _ _ e30,KB hb5 _ _ (e3 1 (by decide)),KB hb5 _ _ (e3 2 (by decide)),KB hb5 _ _ (e3 3 (by decide)),KB hb5 _ _ (e3 4 (by decide)),KB hb5 _ _ (e3 5 (by decide)),KB hb5 _ _ (e3 6 (by decide)),KB hb5 _ _ (e3 7 (by decide)),KB hb5 _ _ (e3 8 (by decide)),KB hb5 _ _ (e3 9 (by decide)),KB hb5 _ _ c6,KB hb5 _ _ e2⟩) (first|(go_at_call 42;refine zdk (kev (em i)) (kev (em i)) _ _ (by rfl) (by rfl) _ _ ?_;intro w5 hb5';have hb5:Below wr.heap.size wr w5:=Below.trans (br.drew) hb5';rw[hst]))
         have HB5:Hid (Below w.heap.size w w5):=HB2.o.trans (hb5.mono HB2.o.size)
         clear hb5 hb5' c5 c6 e1 e2 e3 e30 KB hst
         go_wp2_with fail
         go_roundw
         case rel=>exact⟨k+1,by omega,by go_num,HB5.o⟩
         case measure=>simp only[intOf];omega
        .go_wp2_with fail
         go_roundw
         case rel=>exact⟨i+1,by omega,by go_num,HB2.o⟩
         case measure=>simp only[intOf];omega
      .go_wp2_with fail
       clear c5
       obtain ⟨wb,hwb⟩:=xq wr
       subst hwb
       go_loop [11,12] (fun t _=> ∃i:Nat,i<=ni/\t= .int .i64 i) (fun t _=>ni-(intOf t).toNat)
       case atStart=>exact⟨0,Nat.zero_le _,rfl⟩
       case round=>
        obtain ⟨i,hi,rfl⟩:=hrel
        have c7:=(HB1.o.cell (zab HH.o.c7)).trans HH.o.c7
        by_cases hin:i<ni
        .obtain ⟨g1,hai,hg1⟩:=HH.o.s7.ext HB1.o i hin
         subst hai
         obtain ⟨a,l,c,hbi,hl,hcs⟩:=HH.o.li.ext HB1.o i hin
         have HC:=zl hcs
         rw[hbi] at hg1
         clear hbi hcs
         go_wp2_with fail
         go_loop [12] (fun t=> ∃k:Nat,k<=l/\t= .int .i64 k) (fun t=>l-(intOf t).toNat)
         case atStart=>exact⟨0,Nat.zero_le _,rfl⟩
         case round=>
          obtain ⟨k,hk,rfl⟩:=hrel
          by_cases hkl:k<l
          .obtain ⟨g3,rfl,hg3,_⟩:=HC.o k hkl
           go_wp2_with fail
           go_round
           case rel=>exact⟨k+1,by omega,by go_num⟩
           case measure=>simp only[intOf];omega
          .go_wp2_with fail
           go_round
           case rel=>exact⟨i+1,by omega,by go_num⟩
           case measure=>simp only[intOf];omega
        .go_wp2_with fail
         clear c7
         go_loopw [13,14,15] (fun t _ _ wr=> ∃i:Nat,i<=nl/\t= .int .i64 i/\Below w.heap.size w wr) (fun t _ _ _=>nl-(intOf t).toNat)
         case atStart=>exact⟨0,Nat.zero_le _,rfl,HB1.o⟩
         case round=>
          obtain ⟨i,hi,rfl,hB3⟩:=hrel
          have HB3:=zl hB3
          have c8:=(hB3.cell (zab HH.o.c8)).trans HH.o.c8
          clear hB3
          by_cases hin:i<nl
          .obtain ⟨g1,hal,hg1⟩:=HH.o.s8.ext HB3.o i hin
           subst hal
           obtain ⟨a,l,c,hbi,hl,hcs⟩:=HH.o.ll i hin
           have HC:=zl hcs
           have HG1:Hid (w.cell? ⟨g1,i,none⟩=some (.slice a l c)):=by obtain ⟨g,q1,q2⟩:=HH.o.s8 i hin;simp only[Option.some.injEq,Addr.mk.injEq,and_true] at q1;rw[q1,←hbi];exact q2
           rw[hbi] at hg1
           clear hbi hcs
           go_wp2_with fail
           obtain ⟨wc,hwc⟩:=xq wr
           subst hwc
           clear c8 hg1
           go_loopw [14,15] (fun t _ wr=> ∃k:Nat,k<=l/\t= .int .i64 k/\Below w.heap.size w wr) (fun t _ _=>l-(intOf t).toNat)
           case atStart=>exact⟨0,Nat.zero_le _,rfl,HB3.o⟩
           case round=>
            obtain ⟨k,hk,rfl,hB4⟩:=hrel
            have HB4:=zl hB4
            have c8:=(hB4.cell (zab HH.o.c8)).trans HH.o.c8
            have e1:=(hB4.cell (zab HG1.o)).trans HG1.o
            clear hB4
            by_cases hkl:k<l
            .obtain ⟨g3,rfl,hg3⟩:=HC.o k hkl
             have e3: ∀j,j<10->wr.cell? ⟨g3,k * 10+j,none⟩=some (.int .i64 (kev (-7) j)):=fun j hj=>(HB4.o.cell (zab (hg3 j hj))).trans (hg3 j hj)
             have e30:=e3 0 (by decide)
             rw[Nat.add_zero] at e30
             clear hg3
             go_wp2_with fail
             refine zdk (kev (-7)) (kev (-7)) _ _ (by rfl) (by rfl) _ _ ?_
             intro w5 hb5
             rw[zke]
             have HB5:Hid (Below w.heap.size w w5):=HB4.o.trans (hb5.mono HB4.o.size)
             clear hb5 c8 e1 e3 e30
             go_wp2_with fail
             go_roundw
             case rel=>exact⟨k+1,by omega,by go_num,HB5.o⟩
             case measure=>simp only[intOf];omega
            .go_wp2_with fail
             go_roundw
             case rel=>exact⟨i+1,by omega,by go_num,HB4.o⟩
             case measure=>simp only[intOf];omega
          .go_wp2_with fail
           exact HR.o _ HB3.o
end
section
def nb (X:Nat->Int) (at_:Nat):Nat->Int
 |0=>0
 |n+1=>nb X at_ n * 256+X (at_+n)
def elen (k:Int):Nat:=if isK k then 5+4 *(layn k).length+(if wide k then 8 else 0) else 0
def dval (X:Nat->Int) (at_:Nat):Nat->Int:=fun f=>
 if (lay (X at_)).contains f then (if f=6 then IntKind.i64.wrap (nb X (at_+5+4 *(lay (X at_)).idxOf f) 8) else nb X (at_+5+4 *(lay (X at_)).idxOf f) 4) else 0
def dev (X:Nat->Int) (at_:Nat):Nat->Int:=fun j=>if j=0 then X at_ else if j=1 then nb X (at_+1) 4 else dval X at_ (j-2)
def pos (X:Nat->Int):Nat->Nat
 |0=>0
 |i+1=>pos X i+elen (X (pos X i))
def good (X:Nat->Int) (N i:Nat):Prop:=pos X i<N/\isK (X (pos X i))=true/\pos X i+elen (X (pos X i))<=N
def zbp (X:Nat->Int) (i:Nat):List Value:=(List.range i).flatMap fun q=>(List.range 10).map fun j=>iv (dev X (pos X q) j)
theorem zck (X:Nat->Int)(i:Nat):zbp X (i+1)=zbp X i++(List.range 10).map fun j=>iv (dev X (pos X i) j):=by simp[zbp,List.range_succ]
theorem zjy (k:Int)(h:isK k=true):9<=elen k:=by
 rcases zcd k with h'|h'|h'|h'|h'|h'|h'|h'|h'
 case inr.inr.inr.inr.inr.inr.inr.inr=>rw[h'] at h;cases h
 all_goals simp[elen,layn,wide,h',isK]
theorem elen_le (k:Int):elen k<=32:=by
 rcases zcd k with h'|h'|h'|h'|h'|h'|h'|h'|h'
 case inr.inr.inr.inr.inr.inr.inr.inr=>simp[elen,h']
 all_goals simp[elen,layn,wide,h',isK]
theorem pos_ge (X:Nat->Int)(N i:Nat)(h: ∀q,q<i->good X N q):i<=pos X i:=by
 induction i with
 |zero=>simp
 |succ i ih=>
  have:=ih fun q hq=>h q (by omega)
  have:=zjy _ (h i (by omega)).2.1
  simp only[pos]
  omega
theorem pos_le (X:Nat->Int)(N i:Nat)(h: ∀q,q<i->good X N q):pos X i<=N:=by
 cases i with
 |zero=>simp[pos]
 |succ i=>exact(h i (by omega)).2.2
theorem zk0 {e f:Nat->Int}(h: ∀j,j<10->e j=f j):evv e=evv f:=by
 simp only[evv]
 rw[h 0 (by omega),h 1 (by omega),h 2 (by omega),h 3 (by omega),h 4 (by omega),h 5 (by omega),h 6 (by omega),h 7 (by omega),h 8 (by omega),h 9 (by omega)]
theorem fill_dev (X:Nat->Int)(at_:Nat)(hk:isK (X at_)=true): ∀j,j<10->
  fill (X at_) (nb X (at_+1) 4) (fun i=>nb X (at_+5+4 * i) 4) (if wide (X at_) then IntKind.i64.wrap (nb X (at_+elen (X at_)-8) 8) else 0) j=dev X at_ j:=by
 intro j hj
 have hj':j=0\/j=1\/j=2\/j=3\/j=4\/j=5\/j=6\/j=7\/j=8\/j=9:=by omega
 generalize hz:IntKind.i64.wrap=Z
 rcases zcd (X at_) with h|h|h|h|h|h|h|h|h
 case inr.inr.inr.inr.inr.inr.inr.inr=>rw[h] at hk;cases hk
 all_goals
  simp only[dev,dval,fill,lay,layn,elen,isK,wide,h,hz]
  rcases hj' with rfl|rfl|rfl|rfl|rfl|rfl|rfl|rfl|rfl|rfl
 all_goals simp[List.idxOf,List.findIdx,List.findIdx.go]
theorem zdz (e:Nat->Int):[iv (e 0),iv (e 1),iv (e 2),iv (e 3),iv (e 4),iv (e 5),iv (e 6),iv (e 7),iv (e 8),iv (e 9)]=(List.range 10).map fun j=>iv (e j):=rfl
theorem first_unique (X:Nat->Int)(N i j:Nat)(hi: ∀q,q<i->good X N q)(hj: ∀q,q<j->good X N q)(hni: ¬good X N i)(hnj: ¬good X N j):i=j:=by
 rcases Nat.lt_trichotomy i j with h|h|h
 .exact absurd (hj i h) hni
 .exact h
 .exact absurd (hi j h) hnj
end
section
attribute [local go_sem↓] Go.wp_at_zero Go.wp_at_succ
theorem Tryz.infoInt:(Tryz.prog.info? 3).map (fun i=>(i.zero,i.size,i.bytes))=some (some (.int .i64 0),1,8):=by kernel_rfl
theorem Tryz.infoEvent:(Tryz.prog.info? 42).map (fun i=>(i.zero,i.size,i.bytes))=some (some (.agg #[.int .i64 0,.int .i64 0,.int .i64 0,.int .i64 0,.int .i64 0,.int .i64 0,.int .i64 0,.int .i64 0,.int .i64 0,.int .i64 0]),10,80):=by kernel_rfl
theorem length_any (k:Int)(w:World)(R:EW)(hR: ∀w',Below w.heap.size w w'->R (.returned (.int .i64 (elen k:Nat))) w'):
  Calls Tryz.prog 110 #[.int .i64 k] w R:=by
 have HR:=zl hR
 clear hR
 go_enter Tryz.func110,Tryz.ntmps110
 go_wp2_with fail
 refine zlj (fun j=>if j=0 then k else 0) _ (by simp[evv]) _ _ ?_
 intro fv w2 hb2 hf2
 have hr:=HR.o w2 hb2
 simp only[if_true] at *
 cases hk:isK k with
 |false=>
  rw[show elen k=0 by simp[elen,hk]] at hr
  have hfin:=zl hr
  clear hr hk hf2
  go_wp2_with fail
  exact hfin.o
 |true=>
  obtain ⟨g,cap,rfl,hg1,hg2,hfc⟩:=zig hf2 (by simpa using hk)
  have hl:(nums (fun j=>if j=0 then k else 0)).length=(layn k).length:=by simp[nums]
  have hl4:=zju (fun j=>if j=0 then k else 0)
  rw[hl] at hl4 ⊢
  rcases (show k=6\/k=7\/(k≠6/\k≠7) by omega) with h|h|h
  .have hfin:Hid (R (.returned (.int .i64 (5+4 *(layn k).length+8:Nat))) w2):=by
    have he:elen k=5+4 *(layn k).length+8:=by unfold elen;rw[if_pos hk,if_pos (by simp[wide,h])]
    rw[he] at hr
    exact hr
   have t6:(k==6)=true:=by simp[h]
   generalize (layn k).length=m at *
   clear hr hk hf2 hfc h
   go_wp2_with fail
   refine zci hfin.o ?_
   congr 1
  .have hfin:Hid (R (.returned (.int .i64 (5+4 *(layn k).length+8:Nat))) w2):=by
    have he:elen k=5+4 *(layn k).length+8:=by unfold elen;rw[if_pos hk,if_pos (by simp[wide,h])]
    rw[he] at hr
    exact hr
   have t6:(k==6)=false:=by simp[h]
   have t7:(k==7)=true:=by simp[h]
   generalize (layn k).length=m at *
   clear hr hk hf2 hfc h
   go_wp2_with fail
   refine zci hfin.o ?_
   congr 1
  .have hfin:Hid (R (.returned (.int .i64 (5+4 *(layn k).length:Nat))) w2):=by simpa [Hid,elen,hk,wide,h.1,h.2] using hr
   have t6:(k==6)=false:=by simp[h.1]
   have t7:(k==7)=false:=by simp[h.2]
   generalize (layn k).length=m at *
   clear hr hk hf2 hfc h
   go_wp2_with fail
   refine zci hfin.o ?_
   congr 1
theorem wrap_is (x:Int):IntKind.i64.wrap x=wrap64 x:=by unfold wrap64;exact IntKind.wrap_i64 x
def BsAt (w:World) (a:Option Addr) (n:Nat) (X:Nat->Int):Prop:= ∀i,i<n-> ∃b o,a=some ⟨b,o,none⟩/\w.cell? ⟨b,o+i,none⟩=some (.int .u8 (X i))
theorem BsAt.below {w w':World}{B:Nat}{a:Option Addr}{n:Nat}{X:Nat->Int}(h:BsAt w a n X)(hb:Below B w w')(hB:w.heap.size<=B):BsAt w' a n X:=by
 intro i hi
 obtain ⟨b,o,h1,h2⟩:=h i hi
 exact⟨b,o,h1,(hb.cell (lll (zab h2) hB)).trans h2⟩
theorem zgn (X:Nat->Int)(a n:Nat)(h: ∀j,j<n->0<=X (a+j)/\X (a+j)<=255):0<=nb X a n/\nb X a n<256^n:=by
 induction n with
 |zero=>simp[nb]
 |succ n ih=>
  have h1:=ih fun j hj=>h j (by omega)
  have h2:=h n (by omega)
  simp only[nb]
  rw[Int.pow_succ]
  constructor<;>omega
theorem zhp (a:Option Addr)(n c:Nat)(X:Nat->Int)(A:Int)(at_:Nat)(hA:A=at_)(w:World)(R:EW)(hn:n<=1073741824)(hat:at_+4<=n)
  (hx:BsAt w a n X)(hb: ∀i,i<n->0<=X i/\X i<=255)(hR:R (.returned (.int .i64 (nb X at_ 4))) w):
  Calls Tryz.prog 104 #[.slice a n c,.int .i64 A] w R:=by
 subst hA
 refine number_any a n c X at_ w R hn hat hx hb ?_
 have:nb X at_ 4=((X at_ * 256+X (at_+1)) * 256+X (at_+2)) * 256+X (at_+3):=by simp[nb]
 rw[←this]
 exact hR
theorem zky (k s u:Int)(V:Value)(xs:Nat->Int)(w:World)(R:EW)(B n:Nat)(hk:isK k=true)(hn:n=(layn k).length)
  (hf:w.ownsRow B 3 1 V n ((List.range n).map fun i=>iv (xs i)))
  (hR: ∀w',Below w.heap.size w w'->R (.returned (evv (fill k s xs u))) w'):
  Calls Tryz.prog 101 #[.int .i64 k,.int .i64 s,V,.int .i64 u] w R:=by
 have hp:0<n:=by
  rw[hn]
  rcases zcd k with h|h|h|h|h|h|h|h|h
  case inr.inr.inr.inr.inr.inr.inr.inr=>rw[h] at hk;cases hk
  all_goals simp[layn,h]
 obtain ⟨g,cap,rfl,_,_,_,_,_⟩:=zee hf 0 (iv (xs 0)) (by simp[hp])
 refine filled_any k s _ n cap xs u w R hk (by omega) ?_ hR
 intro i hi
 obtain ⟨g',cap',h4,_,_,_,h5,_⟩:=zee hf i (iv (xs i)) (by rw[List.getElem?_map,List.getElem?_range (by omega)];rfl)
 simp only[Value.slice.injEq,Option.some.injEq,Addr.mk.injEq] at h4
 rw[←h4.1.1] at h5
 exact⟨g,0,rfl,by rw[Nat.zero_add];exact h5⟩
theorem refDecode_any (a:Option Addr)(N c:Nat)(X:Nat->Int)(w:World)(R:EW)(hN:N<=1048576)(hx:BsAt w a N X)(hb: ∀i,i<N->0<=X i/\X i<=255)
  (hR1: ∀i w',(∀q,q<i->good X N q)->pos X i<N->isK (X (pos X i))=false->Below w.heap.size w w'->R (.returned (.tuple #[.slice none 0 0,.int .i64 3,.int .i64 (pos X i)])) w')
  (hR2: ∀i w',(∀q,q<i->good X N q)->pos X i<N->isK (X (pos X i))=true->N<pos X i+elen (X (pos X i))->Below w.heap.size w w'->R (.returned (.tuple #[.slice none 0 0,.int .i64 2,.int .i64 (pos X i)])) w')
  (hR3: ∀i v w',(∀q,q<i->good X N q)->pos X i=N->Below w.heap.size w w'->w'.ownsRow w.heap.size 42 10 v i (zbp X i)->R (.returned (.tuple #[v,.int .i64 0,.int .i64 0])) w'):
  Calls Tryz.prog 76 #[.slice a N c] w R:=by
 have HR1:=zl hR1
 have HR2:=zl hR2
 have HR3:=zl hR3
 have HX:=zl hx
 have HB:=zl hb
 clear hR1 hR2 hR3 hx hb
 go_enter Tryz.func76,Tryz.ntmps76
 go_wp2_with fail
 go_loopw [5,6,7,8,9,10,11,12,13,14] (fun l i _ _ _ _ _ _ _ _ wr=> ∃k:Nat,(∀q,q<k->good X N q)/\i= .int .i64 (pos X k)/\Grew w.heap.size 42 10 w (.slice none 0 0) wr l k (zbp X k)) (fun _ i _ _ _ _ _ _ _ _ _=>N-(intOf i).toNat)
 case atStart=>exact⟨0,fun q hq=>absurd hq (by omega),rfl,Grew.refl (World.ownsRow_nil _ _ _ _)⟩
 case round=>
  obtain ⟨k,hgd,rfl,hG⟩:=hrel
  have hBr:Below w.heap.size w wr:=hG.below nr (fun g hg=>by simp[Value.ownBlock] at hg)
  have HG:=zl hG
  have HGD:=zl hgd
  have HBr:=zl hBr
  have hpN:=pos_le X N k hgd
  have hpk:=pos_ge X N k hgd
  obtain ⟨p,hp⟩:=xq (pos X k)
  have HP:=zl hp
  rw[←hp] at hpN hpk ⊢
  clear hgd hG hBr hp
  by_cases hpn:p<N
  .obtain ⟨b,o,rfl,hc⟩:=HX.o p hpn
   have hc':=(HBr.o.cell (zab hc)).trans hc
   obtain ⟨hb0,hb1⟩:=HB.o p hpn
   clear hc
   go_wp2_with fail
   refine length_any _ _ _ ?_
   intro w2 hb2
   have HB2:Hid (Below w.heap.size w w2):=HBr.o.trans (hb2.mono HBr.o.size)
   have HG2:=zl (HG.o.ext hb2)
   have HX2:Hid (BsAt w2 (some ⟨b,o,none⟩) N X):=HX.o.below HB2.o nr
   have hle:=elen_le (X p)
   clear hc' hb2
   cases hk:isK (X p) with
   |false=>
    have hz:elen (X p)=0:=by simp[elen,hk]
    have hfin:Hid (R (.returned (.tuple #[.slice none 0 0,.int .i64 3,.int .i64 p])) w2):=by
     have:=HR1.o k w2 HGD.o (by rw[←HP.o];exact hpn) (by rw[←HP.o];exact hk) HB2.o
     rw[←HP.o] at this
     exact this
    rw[hz]
    clear hk hz
    go_wp2_with fail
    go_ret3
    exact hfin.o
   |true=>
    have he9:=zjy (X p) hk
    have hez:((elen (X p):Int)==0)=false:=by simp;omega
    by_cases hlong:N<p+elen (X p)
    .have hfin:Hid (R (.returned (.tuple #[.slice none 0 0,.int .i64 2,.int .i64 p])) w2):=by
      have:=HR2.o k w2 HGD.o (by rw[←HP.o];exact hpn) (by rw[←HP.o];exact hk) (by rw[←HP.o];exact hlong) HB2.o
      rw[←HP.o] at this
      exact this
     clear hk
     go_wp2_with fail
     go_ret3
     exact hfin.o
    .have HK:=zl hk
     clear hk
     go_wp2_with fail
     refine zlj (fun j=>if j=0 then X p else 0) _ (by simp[evv]) _ _ ?_
     intro gv w3 hb3 hg3
     obtain ⟨g,cap,rfl,hg1,hg2,_⟩:=zig hg3 (by simpa using HK.o)
     obtain ⟨m,hm⟩:=xq ((layn (X p)).length)
     have hl:(nums (fun j=>if j=0 then X p else 0)).length=m:=by simp[nums,hm]
     have hm4:m<=4:=by rw[←hl];exact zju _
     rw[hl]
     have HM:=zl hm
     have HEL:Hid (elen (X p)=5+4 * m+(if wide (X p) then 8 else 0)):=by show _=_;unfold elen;rw[if_pos HK.o,hm]
     have hel:5+4 * m<=elen (X p):=by rw[HEL.o];omega
     have HB3:Hid (Below w.heap.size w w3):=HB2.o.trans (hb3.mono HB2.o.size)
     have HG3:=zl (HG2.o.ext hb3)
     have HX3:Hid (BsAt w3 (some ⟨b,o,none⟩) N X):=HX2.o.below hb3 nr
     clear hb3 hg3 hl hm hg1 hg2 HX2 HG2 HB2
     obtain ⟨wa,hwa⟩:=xq wr
     subst hwa
     obtain ⟨ua,hua⟩:=xq u5
     subst hua
     go_wp2_with fail
     go_loopw [9,12] (fun f i wc=> ∃r:Nat,r<=m/\i= .int .i64 r/\Grew w3.heap.size 3 1 w3 (.slice none 0 0) wc f r ((List.range r).map fun q=>iv (nb X (p+5+4 * q) 4))) (fun _ i _=>m-(intOf i).toNat)
     case atStart=>exact⟨0,Nat.zero_le _,rfl,Grew.refl (World.ownsRow_nil _ _ _ _)⟩
     case round=>
      obtain ⟨r,hr,rfl,hF⟩:=hrel
      have hBw:Below w3.heap.size w3 wr:=hF.below nr (fun g hg=>by simp[Value.ownBlock] at hg)
      have HBw:=zl hBw
      have HF:=zl hF
      have hzw:=hBw.size
      clear hF hBw
      by_cases hrm:r<m
      .go_wp2_with fail
       refine zhp _ N c X _ (p+5+4 * r) (by simp) _ _ (by omega) (by omega) (HX3.o.below HBw.o nr) HB.o ?_
       generalize hv:nb X (p+5+4 * r) 4=v at *
       have HV:=zl hv
       clear hv
       go_wp2_with (at_builtin;go_must (refine za7 w3.heap.size 1 8 r _ _ _ HF.o.own hzw Tryz.infoInt rfl (by decide) rfl ?c2 ?c3 (by decide) _ _ 26 Tryz.underlying26 rfl rfl rfl rfl ?_))
       case c2=>rfl
       case c3=>omega
       intro v1 w1 hG1
       have HF1:Hid (Grew w3.heap.size 3 1 w3 (.slice none 0 0) w1 v1 (r+1) ((List.range (r+1)).map fun q=>iv (nb X (p+5+4 * q) 4))):=(HF.o.trans hG1).cast rfl (by simp[List.range_succ,HV.o,iv])
       clear hG1
       go_wp2_with fail
       go_roundw
       case rel=>exact⟨r+1,by omega,by go_num,HF1.o⟩
       case measure=>simp only[intOf];omega
      .have hr':r=m:=by omega
       subst hr'
       have hplN:p+elen (X p)<=N:=by omega
       rcases (show X p=6\/X p=7\/(X p≠6/\X p≠7) by omega) with h|h|h
       case inr.inr=>
        have t6:(X p==6)=false:=by simp[h.1]
        have t7:(X p==7)=false:=by simp[h.2]
        have HU:Hid ((if wide (X p) then IntKind.i64.wrap (nb X (p+elen (X p)-8) 8) else 0)=0):=by simp[Hid,wide,h.1,h.2]
        clear h
        go_wp2_with fail
        refine zhp _ N c X _ (p+1) (by rfl) _ _ (by omega) (by omega) (HX3.o.below HBw.o nr) HB.o ?_
        go_wp2_with fail
        refine zky _ _ _ u9 (fun q=>nb X (p+5+4 * q) 4) _ _ w3.heap.size r HK.o HM.o HF.o.own ?_
        intro w5 hb5
        have HB5:Hid (Below w3.heap.size w3 w5):=HBw.o.trans (hb5.mono HBw.o.size)
        have HG5:=zl (HG3.o.ext HB5.o)
        have hz5:w.heap.size<=w5.heap.size:=HG5.o.grown.size
        have hfd:=zk0 (fill_dev X p HK.o)
        rw[HU.o] at hfd
        rw[hfd]
        obtain ⟨d,hd⟩:=xq (dev X p)
        rw[←hd]
        have HD:=zl hd
        clear hfd hd hb5
        unfold evv
        go_wp2_with (at_builtin;go_must (refine za7 w.heap.size 10 80 k _ _ _ HG5.o.own hz5 Tryz.infoEvent rfl (by decide) rfl ?c2 ?c3 (by decide) _ _ 32 Tryz.underlying32 rfl rfl rfl rfl ?_))
        case c2=>exact⟨rfl,rfl,rfl,rfl,rfl,rfl,rfl,rfl,rfl,rfl⟩
        case c3=>omega
        intro v6 w6 hg6
        have HG6:Hid (Grew w.heap.size 42 10 w (.slice none 0 0) w6 v6 (k+1) (zbp X (k+1))):=(HG5.o.trans hg6).cast rfl (by rw[zck,←HP.o,←HD.o,←zdz];rfl)
        have HGD':Hid (∀q,q<k+1->good X N q):=by
         intro q hq
         by_cases h:q=k
         .rw[h]
          exact⟨by rw[←HP.o];exact hpn,by rw[←HP.o];exact HK.o,by rw[←HP.o];omega⟩
         .exact HGD.o q (by omega)
        have HP':Hid (pos X (k+1)=p+elen (X p)):=by show _=_;rw[pos,←HP.o]
        clear hg6
        go_wp2_with fail
        go_roundw
        case rel=>exact⟨k+1,HGD'.o,by rw[HP'.o];go_num,HG6.o⟩
        case measure=>simp only[intOf];omega
       case inl=>
        have t6:(X p==6)=true:=by simp[h]
        have HW:Hid (wide (X p)=true):=by simp[Hid,wide,h]
        have he8:elen (X p)=5+4 * r+8:=by rw[HEL.o,HW.o];rfl
        have HE8:=zl he8
        have HXw:Hid (BsAt wr (some ⟨b,o,none⟩) N X):=HX3.o.below HBw.o nr
        clear h
        rw[he8] at hplN
        go_wp2_with fail
        go_loop [13,14] (fun t i=> ∃y:Nat,y<=8/\i= .int .i64 (5+4 * r+y:Nat)/\t= .int .u64 (nb X (p+5+4 * r) y)) (fun _ i=>elen (X p)-(intOf i).toNat)
        case atStart=>exact⟨0,by omega,by congr 1<;>omega,rfl⟩
        case round=>
         obtain ⟨y,hy,rfl,rfl⟩:=hrel
         by_cases hy8:y<8
         .obtain ⟨b',o',hbo,hcy⟩:=HXw.o (p+5+4 * r+y) (by omega)
          simp only[Option.some.injEq,Addr.mk.injEq] at hbo
          obtain ⟨rfl,rfl,_⟩:=hbo
          have hcy':wr.cell? ⟨b,o+(p+(5+4 * r+y)),none⟩=some (.int .u8 (X (p+5+4 * r+y))):=by rw[←hcy];congr 2;omega
          obtain ⟨hxb0,hxb1⟩:=HB.o (p+5+4 * r+y) (by omega)
          have hnb:=zgn X (p+5+4 * r) y fun q hq=>HB.o _ (by omega)
          have hpw:(256:Int)^y<=72057594037927936:=by
           have:y=0\/y=1\/y=2\/y=3\/y=4\/y=5\/y=6\/y=7:=by omega
           rcases this with rfl|rfl|rfl|rfl|rfl|rfl|rfl|rfl<;>decide
          have hs0:=hnb.1
          have hs1:nb X (p+5+4 * r) y<72057594037927936:=by omega
          have HS:Hid (nb X (p+5+4 * r) (y+1)=nb X (p+5+4 * r) y * 256+X (p+5+4 * r+y)):=rfl
          generalize nb X (p+5+4 * r) y=s at *
          generalize X (p+5+4 * r+y)=x at *
          clear hcy hnb hpw hel hlong
          go_wp2_with fail
          go_round
          case rel=>exact⟨y+1,by omega,by congr 1,by rw[HS.o]⟩
          case measure=>simp only[intOf];omega
         .have hy':y=8:=by omega
          subst hy'
          have HU:Hid ((if wide (X p) then IntKind.i64.wrap (nb X (p+elen (X p)-8) 8) else 0)=wrap64 (nb X (p+5+4 * r) 8)):=by
           show _=_
           rw[HW.o,if_pos rfl,HE8.o,show p+(5+4 * r+8)-8=p+5+4 * r by omega]
           exact wrap_is _
          clear hy8
          go_wp2_with fail
          refine zhp _ N c X _ (p+1) (by rfl) _ _ (by omega) (by omega) (HX3.o.below HBw.o nr) HB.o ?_
          go_wp2_with fail
          refine zky _ _ _ u9 (fun q=>nb X (p+5+4 * q) 4) _ _ w3.heap.size r HK.o HM.o HF.o.own ?_
          intro w5 hb5
          have HB5:Hid (Below w3.heap.size w3 w5):=HBw.o.trans (hb5.mono HBw.o.size)
          have HG5:=zl (HG3.o.ext HB5.o)
          have hz5:w.heap.size<=w5.heap.size:=HG5.o.grown.size
          have hfd:=zk0 (fill_dev X p HK.o)
          rw[HU.o] at hfd
          rw[hfd]
          obtain ⟨d,hd⟩:=xq (dev X p)
          rw[←hd]
          have HD:=zl hd
          clear hfd hd hb5
          unfold evv
          go_wp2_with (at_builtin;go_must (refine za7 w.heap.size 10 80 k _ _ _ HG5.o.own hz5 Tryz.infoEvent rfl (by decide) rfl ?c2 ?c3 (by decide) _ _ 32 Tryz.underlying32 rfl rfl rfl rfl ?_))
          case c2=>exact⟨rfl,rfl,rfl,rfl,rfl,rfl,rfl,rfl,rfl,rfl⟩
          case c3=>omega
          intro v6 w6 hg6
          have HG6:Hid (Grew w.heap.size 42 10 w (.slice none 0 0) w6 v6 (k+1) (zbp X (k+1))):=(HG5.o.trans hg6).cast rfl (by rw[zck,←HP.o,←HD.o,←zdz];rfl)
          have HGD':Hid (∀q,q<k+1->good X N q):=by
           intro q hq
           by_cases h:q=k
           .rw[h]
            exact⟨by rw[←HP.o];exact hpn,by rw[←HP.o];exact HK.o,by rw[←HP.o];omega⟩
           .exact HGD.o q (by omega)
          have HP':Hid (pos X (k+1)=p+elen (X p)):=by show _=_;rw[pos,←HP.o]
          clear hg6
          go_wp2_with fail
          go_roundw
          case rel=>exact⟨k+1,HGD'.o,by rw[HP'.o];first|go_num|(congr 1;have:=HE8.o;omega),HG6.o⟩
          case measure=>simp only[intOf];omega
       case inr.inl=>
        have t6:(X p==6)=false:=by simp[h]
        have t7:(X p==7)=true:=by simp[h]
        have HW:Hid (wide (X p)=true):=by simp[Hid,wide,h]
        have he8:elen (X p)=5+4 * r+8:=by rw[HEL.o,HW.o];rfl
        have HE8:=zl he8
        have HXw:Hid (BsAt wr (some ⟨b,o,none⟩) N X):=HX3.o.below HBw.o nr
        clear h
        rw[he8] at hplN
        go_wp2_with fail
        go_loop [13,14] (fun t i=> ∃y:Nat,y<=8/\i= .int .i64 (5+4 * r+y:Nat)/\t= .int .u64 (nb X (p+5+4 * r) y)) (fun _ i=>elen (X p)-(intOf i).toNat)
        case atStart=>exact⟨0,by omega,by congr 1<;>omega,rfl⟩
        case round=>
         obtain ⟨y,hy,rfl,rfl⟩:=hrel
         by_cases hy8:y<8
         .obtain ⟨b',o',hbo,hcy⟩:=HXw.o (p+5+4 * r+y) (by omega)
          simp only[Option.some.injEq,Addr.mk.injEq] at hbo
          obtain ⟨rfl,rfl,_⟩:=hbo
          have hcy':wr.cell? ⟨b,o+(p+(5+4 * r+y)),none⟩=some (.int .u8 (X (p+5+4 * r+y))):=by rw[←hcy];congr 2;omega
          obtain ⟨hxb0,hxb1⟩:=HB.o (p+5+4 * r+y) (by omega)
          have hnb:=zgn X (p+5+4 * r) y fun q hq=>HB.o _ (by omega)
          have hpw:(256:Int)^y<=72057594037927936:=by
           have:y=0\/y=1\/y=2\/y=3\/y=4\/y=5\/y=6\/y=7:=by omega
           rcases this with rfl|rfl|rfl|rfl|rfl|rfl|rfl|rfl<;>decide
          have hs0:=hnb.1
          have hs1:nb X (p+5+4 * r) y<72057594037927936:=by omega
          have HS:Hid (nb X (p+5+4 * r) (y+1)=nb X (p+5+4 * r) y * 256+X (p+5+4 * r+y)):=rfl
          generalize nb X (p+5+4 * r) y=s at *
          generalize X (p+5+4 * r+y)=x at *
          clear hcy hnb hpw hel hlong
          go_wp2_with fail
          go_round
          case rel=>exact⟨y+1,by omega,by congr 1,by rw[HS.o]⟩
          case measure=>simp only[intOf];omega
         .have hy':y=8:=by omega
          subst hy'
          have HU:Hid ((if wide (X p) then IntKind.i64.wrap (nb X (p+elen (X p)-8) 8) else 0)=wrap64 (nb X (p+5+4 * r) 8)):=by
           show _=_
           rw[HW.o,if_pos rfl,HE8.o,show p+(5+4 * r+8)-8=p+5+4 * r by omega]
           exact wrap_is _
          clear hy8
          go_wp2_with fail
          refine zhp _ N c X _ (p+1) (by rfl) _ _ (by omega) (by omega) (HX3.o.below HBw.o nr) HB.o ?_
          go_wp2_with fail
          refine zky _ _ _ u9 (fun q=>nb X (p+5+4 * q) 4) _ _ w3.heap.size r HK.o HM.o HF.o.own ?_
          intro w5 hb5
          have HB5:Hid (Below w3.heap.size w3 w5):=HBw.o.trans (hb5.mono HBw.o.size)
          have HG5:=zl (HG3.o.ext HB5.o)
          have hz5:w.heap.size<=w5.heap.size:=HG5.o.grown.size
          have hfd:=zk0 (fill_dev X p HK.o)
          rw[HU.o] at hfd
          rw[hfd]
          obtain ⟨d,hd⟩:=xq (dev X p)
          rw[←hd]
          have HD:=zl hd
          clear hfd hd hb5
          unfold evv
          go_wp2_with (at_builtin;go_must (refine za7 w.heap.size 10 80 k _ _ _ HG5.o.own hz5 Tryz.infoEvent rfl (by decide) rfl ?c2 ?c3 (by decide) _ _ 32 Tryz.underlying32 rfl rfl rfl rfl ?_))
          case c2=>exact⟨rfl,rfl,rfl,rfl,rfl,rfl,rfl,rfl,rfl,rfl⟩
          case c3=>omega
          intro v6 w6 hg6
          have HG6:Hid (Grew w.heap.size 42 10 w (.slice none 0 0) w6 v6 (k+1) (zbp X (k+1))):=(HG5.o.trans hg6).cast rfl (by rw[zck,←HP.o,←HD.o,←zdz];rfl)
          have HGD':Hid (∀q,q<k+1->good X N q):=by
           intro q hq
           by_cases h:q=k
           .rw[h]
            exact⟨by rw[←HP.o];exact hpn,by rw[←HP.o];exact HK.o,by rw[←HP.o];omega⟩
           .exact HGD.o q (by omega)
          have HP':Hid (pos X (k+1)=p+elen (X p)):=by show _=_;rw[pos,←HP.o]
          clear hg6
          go_wp2_with fail
          go_roundw
          case rel=>exact⟨k+1,HGD'.o,by rw[HP'.o];first|go_num|(congr 1;have:=HE8.o;omega),HG6.o⟩
          case measure=>simp only[intOf];omega
  .have hp':p=N:=by omega
   subst hp'
   have hfin:=zl (HR3.o k u5 wr HGD.o HP.o.symm HBr.o HG.o.own)
   go_wp2_with fail
   go_ret3
   exact hfin.o
end
