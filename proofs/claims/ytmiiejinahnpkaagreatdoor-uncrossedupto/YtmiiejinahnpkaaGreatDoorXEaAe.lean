import Derived.Test.YtmiiejinahnpkaaGreatDoorXBaBd
set_option maxRecDepth 8000
namespace Go.Proofs.YtmiiejinahnpkaaGreatDoor
section
open Go.RowKit
structure Od where
 id:Nat
 side:Nat
 typ:Nat
 price:Nat
 rest:Nat
structure Cf where
 ref:Nat
 opn:Nat
 cls:Nat
 fin:Nat
 orders:Nat
 total:Nat
structure Mk where
 phase:Nat
 time:Nat
 ref:Nat
 seq:Nat
 all:List Od
 out:List (Nat->Int)
def mkev (k s i r b e q p u h:Int):Nat->Int
 |0=>k
 |1=>s
 |2=>i
 |3=>r
 |4=>b
 |5=>e
 |6=>q
 |7=>p
 |8=>u
 |9=>h
 |_=>0
def pl (o:Od):Bool:=o.typ==2||o.typ==3
def wt (ph:Nat) (o:Od):Bool:=o.typ==4&&decide (ph<2)
def bk (ph:Nat) (o:Od):Bool:=decide (0<o.rest)&&!wt ph o
def tk (o:Od) (p:Nat):Bool:=pl o||(if o.side=1 then decide (p<=o.price) else decide (o.price<=p))
def zdq (ph s p:Nat) (o:Od):Bool:=bk ph o&&(tk o p&&o.side==s)
def dep (ph:Nat) (l:List Od) (s p:Nat):Nat:=((l.filter (zdq ph s p)).map Od.rest).sum
def inCnd (ph:Nat) (o:Od):Bool:=bk ph o&&!pl o
def cnd (ph r:Nat) (l:List Od):List Nat:=r::(l.filter (inCnd ph)).map Od.price
def gp (a b:Nat):Nat:=if a<b then b-a else a-b
def zdo (v:Nat->Nat) (l:List Nat):Nat:=l.foldl (fun a p=>if a<v p then v p else a) 0
def zfc (v g:Nat->Nat) (M:Nat) (l:List Nat):Int:=l.foldl (fun (a:Int) p=>if v p=M/\(a<0\/(g p:Int)<a) then (g p:Int) else a) (-1)
def zcz (v g:Nat->Nat) (M:Nat) (O:Int) (l:List Nat):List Nat:=l.filter fun p=>decide (v p=M/\(g p:Int)=O)
def zi6 (R q p:Nat):Bool:=decide (gp q R<gp p R)||(decide (gp q R=gp p R)&&decide (p<q))
def zcb (buys sells:Bool) (R:Nat) (p:Nat) (l:List Nat):Nat:=
 l.foldl (fun p q=>if (buys&&decide (p<q))||((sells&&decide (q<p))||((!buys&&!sells)&&zi6 R q p)) then q else p) p
def vof (ph:Nat) (l:List Od) (p:Nat):Nat:=min (dep ph l 1 p) (dep ph l 2 p)
def gof (ph:Nat) (l:List Od) (p:Nat):Nat:=gp (dep ph l 1 p) (dep ph l 2 p)
def zea (ph:Nat) (l:List Od) (p:Nat):Bool:=decide (dep ph l 2 p<dep ph l 1 p)
def zc1 (ph:Nat) (l:List Od) (p:Nat):Bool:=decide (dep ph l 1 p<dep ph l 2 p)
def zcn (ph R:Nat) (l:List Od):Nat:=zdo (vof ph l) (cnd ph R l)
def oddAt (ph R:Nat) (l:List Od):Int:=zfc (vof ph l) (gof ph l) (zcn ph R l) (cnd ph R l)
def zcp (ph R:Nat) (l:List Od):List Nat:=zcz (vof ph l) (gof ph l) (zcn ph R l) (oddAt ph R l) (cnd ph R l)
def zdf (ph R:Nat) (l:List Od):Nat:=zcb ((zcp ph R l).all (zea ph l)) ((zcp ph R l).all (zc1 ph l)) R ((zcp ph R l).headD 0) (zcp ph R l).tail
def zal (ph R:Nat) (l:List Od):Nat×Nat×Int:=
 if zcn ph R l=0 then (0,0,0)
 else (zdf ph R l,zcn ph R l,(dep ph l 1 (zdf ph R l):Int)-(dep ph l 2 (zdf ph R l):Int))
def zax (m:Mk) (e:Nat->Int):Mk:=
 {m with seq:=(m.seq+1)%4294967296,out:=m.out++[fun j=>if j=1 then (((m.seq+1)%4294967296:Nat):Int) else e j]}
def zbh (m:Mk) (id why:Nat):Mk:=zax m (mkev 2 0 id why 0 0 0 0 0 0)
def zah (m:Mk) (kind:Nat):Mk:=
 let c:=zal m.phase m.ref m.all
 zax m (mkev kind 0 0 0 0 0 c.2.1 c.1 c.2.2 0)
def zaf (l:List Od) (i r:Nat):List Od:=l.modify i fun o=>{o with rest:=r}
def od0:Od:=⟨0,0,0,0,0⟩
def nth (l:List Od) (i:Nat):Od:=l.getD i od0
def zav (m:Mk) (i:Nat):Mk:=
 let m1:=zax m (mkev 4 0 (nth m.all i).id 0 0 0 (nth m.all i).rest 0 0 0)
 {m1 with all:=zaf m.all i 0}
def za3 (m:Mk) (i k n p:Nat):Mk:=
 let l1:=zaf m.all i ((nth m.all i).rest-n)
 let l2:=zaf l1 k ((nth l1 k).rest-n)
 zax {m with all:=l2,ref:=p} (mkev 3 0 0 0 (nth l2 i).id (nth l2 k).id n p 0 0)
def zcy (a b:Od) (i k:Nat):Bool:=
 if pl a !=pl b then pl a
 else if !pl a&&a.price !=b.price then (if a.side=1 then decide (b.price<a.price) else decide (a.price<b.price))
 else decide (i<k)
def za0 (ph:Nat) (l:List Od) (s:Nat):Nat->Int
 |0=> -1
 |n+1=>let b:=za0 ph l s n
  if bk ph (nth l n)&&((nth l n).side==s&&(decide (b<0)||zcy (nth l n) (nth l b.toNat) n b.toNat)) then n else b
def zbc (c:Cf) (m:Mk) (o:Od):Nat:=
 if m.all.any (fun a=>a.id==o.id) then 2
 else if o.rest=0 then 4
 else if (pl o&&o.price !=0)||(!pl o&&(o.price==0||decide (1000000<o.price))) then 5
 else if m.phase=3\/(o.typ=3/\m.phase≠0) then 6
 else if c.orders<=(m.all.filter fun a=>decide (0<a.rest)).length then 7
 else if c.total<o.rest+((m.all.filter fun a=>a.side==o.side).map Od.rest).sum then 8
 else 0
def zbd (o:Od) (k:Nat):Nat->Mk->Mk
 |0,m=>m
 |f+1,m=>
  if (nth m.all k).rest=0 then m else
  let i:=za0 m.phase m.all (3-o.side) m.all.length
  if i<0 then m else
  let j:=i.toNat
  let p:=(nth m.all j).price
  if !tk o p then m else
  let n:=min (nth m.all k).rest (nth m.all j).rest
  zbd o k f (if o.side=1 then za3 m k j n p else za3 m j k n p)
def zce (c:Cf) (m:Mk) (o:Od):Mk:=
 if zbc c m o≠0 then zbh m o.id (zbc c m o) else
 let m1:=zax m (mkev 1 0 o.id 0 0 0 o.rest 0 0 0)
 let m2:={m1 with all:=m1.all++[o]}
 let k:=m.all.length
 if m2.phase≠1 then zah m2 6
 else if wt m2.phase o then m2
 else
  let m3:=zbd o k o.rest m2
  if o.typ=2/\0<(nth m3.all k).rest then zav m3 k else m3
def zas (l:List Od) (id:Nat):Nat->Int
 |0=> -1
 |n+1=>if (nth l n).id=id/\0<(nth l n).rest then n else zas l id n
def zbv (m:Mk) (id:Nat) (by_:Int):Mk:=
 let k:=zas m.all id m.all.length
 if k<0 then zbh m id 3
 else if by_=0 then zbh m id 4
 else
  let m1:=if by_<0\/((nth m.all k.toNat).rest:Int)<=by_ then zav m k.toNat
   else zax {m with all:=zaf m.all k.toNat ((nth m.all k.toNat).rest-by_.toNat)} (mkev 5 0 id 0 0 0 by_ 0 0 0)
  if m1.phase=0\/m1.phase=2 then zah m1 6 else m1
def zbg (p:Nat):Nat->Nat->Mk->Mk
 |0,_,m=>m
 |f+1,v,m=>
  if v=0 then m else
  let a:=(za0 m.phase m.all 1 m.all.length).toNat
  let b:=(za0 m.phase m.all 2 m.all.length).toNat
  let n:=min v (min (nth m.all a).rest (nth m.all b).rest)
  zbg p f (v-n) (za3 m a b n p)
def zai:Nat->Mk->Mk
 |0,m=>m
 |n+1,m=>
  let m1:=zai n m
  if 0<(nth m1.all n).rest/\(m1.phase=3\/(m1.phase=1/\pl (nth m1.all n)=true)) then zav m1 n else m1
def zbj (m:Mk):Mk:=
 let m1:=if m.phase≠1 then
   let c:=zal m.phase m.ref m.all
   zbg c.1 c.2.1 c.2.1 (zah m 7)
  else m
 let m2:={m1 with phase:=m1.phase+1}
 let m3:=zax m2 (mkev 8 0 0 0 0 0 0 0 0 m2.phase)
 let m4:=zai m3.all.length m3
 if m4.phase=2 then zah m4 6 else m4
def zb3 (c:Cf) (ph:Nat):Nat:=if ph=0 then c.opn else if ph=1 then c.cls else c.fin
def za2 (c:Cf) (t:Nat):Nat->Mk->Mk
 |0,m=>m
 |f+1,m=>if m.phase<3/\zb3 c m.phase<=t then za2 c t f (zbj m) else m
def zdu (c:Cf) (m:Mk) (t:Nat):Mk:=
 if t<=m.time then m else za2 c t 3 {m with time:=t}
def num4 (X:Nat->Nat) (i:Nat):Nat:=((X i * 256+X (i+1)) * 256+X (i+2)) * 256+X (i+3)
def zaz (c:Cf) (m0:Mk) (X:Nat->Nat) (n:Nat):Mk:=
 let m:={m0 with out:=[]}
 let k:=if 0<n then X 0 else 0
 if k=1/\n=15/\1<=X 5/\X 5<=2/\1<=X 6/\X 6<=4 then zce c m ⟨num4 X 1,X 5,X 6,num4 X 11,num4 X 7⟩
 else if k=2/\n=5 then zbv m (num4 X 1) (-1)
 else if k=3/\n=9 then zbv m (num4 X 1) (num4 X 5)
 else if k=4/\n=5 then zdu c m (num4 X 1)
 else zbh m 0 1
def newM (c:Cf):Mk:=⟨0,0,c.ref,0,[],[]⟩
end
section
open Go.RowKit
def odv (o:Od):Value:= .agg #[.int .i64 o.id,.int .i64 o.side,.int .i64 o.typ,.int .i64 o.price,.int .i64 o.rest]
def odc (o:Od):List Value:=[.int .i64 o.id,.int .i64 o.side,.int .i64 o.typ,.int .i64 o.price,.int .i64 o.rest]
def odcs (l:List Od):List Value:=l.flatMap odc
def evc (e:Nat->Int):List Value:=(List.range 10).map fun j=>iv (e j)
def evcs (l:List (Nat->Int)):List Value:=l.flatMap evc
def odf (o:Od):Nat->Nat
 |0=>o.id
 |1=>o.side
 |2=>o.typ
 |3=>o.price
 |_=>o.rest
structure RM (w:World) (B:Nat) (c:Cf) (m:Mk) (vA vO:Value):Prop where
 blk:w.heap[B]?=some (.cells #[.int .i64 c.ref,.int .i64 c.opn,.int .i64 c.cls,.int .i64 c.fin,.int .i64 c.orders,.int .i64 c.total,.int .i64 m.phase,.int .i64 m.time,.int .i64 m.ref,.int .i64 m.seq,vA,vO] 127 (0,0))
 all:w.ownsRow 0 171 5 vA m.all.length (odcs m.all)
 out:w.ownsRow 0 42 10 vO m.out.length (evcs m.out)
 sepA:vA.ownBlock≠some B
 sepO:vO.ownBlock≠some B
 sep: ∀g,vA.ownBlock=some g->vO.ownBlock≠some g
theorem odcs_get (l:List Od)(i j:Nat)(hi:i<l.length)(hj:j<5):(odcs l)[i * 5+j]?=some (.int .i64 (odf (nth l i) j)):=by
 induction l generalizing i with
 |nil=>simp at hi
 |cons a l ih=>
  cases i with
  |zero=>
   simp only[odcs,List.flatMap_cons,Nat.zero_mul,Nat.zero_add]
   rw[List.getElem?_append_left (by simp[odc];omega)]
   have:j=0\/j=1\/j=2\/j=3\/j=4:=by omega
   rcases this with rfl|rfl|rfl|rfl|rfl<;>rfl
  |succ i=>
   simp only[odcs,List.flatMap_cons]
   rw[List.getElem?_append_right (by simp[odc];omega)]
   have:=ih i (by simpa using hi)
   simp only[odcs] at this
   have e:(i+1) * 5+j-(odc a).length=i * 5+j:=by simp[odc];omega
   rw[e,this]
   rfl
variable {w w':World}
theorem zau (hb:Below w.heap.size w w'){g:Nat}{o:Obj}(h:w.heap[g]?=some o):w'.heap[g]?=some o:=by
 rw[hb.block g (gsi.1 h).1]
 exact h
variable {v vA vO:Value}
theorem zbe {base:Nat}{e:TypeId}{size n:Nat}{xs:List Value}(h:w.ownsRow base e size v n xs)(hb:Below w.heap.size w w'):w'.ownsRow base e size v n xs:=by
 refine⟨h.1,?_⟩
 rcases h.2 with h2|⟨g,cap,cur,rfl,hbg,hg,r⟩
 .exact .inl h2
 .exact .inr ⟨g,cap,cur,rfl,hbg,zau hb hg,r⟩
variable {c:Cf} {m:Mk} {B:Nat}
theorem RM.ext (h:RM w B c m vA vO)(hb:Below w.heap.size w w'):RM w' B c m vA vO:=
 ⟨zau hb h.blk,zbe h.all hb,zbe h.out hb,h.sepA,h.sepO,h.sep⟩
theorem RM.cells (h:RM w B c m vA vO): ∀(i:Nat) (v:Value),(#[.int .i64 c.ref,.int .i64 c.opn,.int .i64 c.cls,.int .i64 c.fin,.int .i64 c.orders,.int .i64 c.total,.int .i64 m.phase,.int .i64 m.time,.int .i64 m.ref,.int .i64 m.seq,vA,vO]:Array Value)[i]?=some v->w.cell? ⟨B,i,none⟩=some v:=
 fun i v hv=>by rw[cell_of_row w B i _ _ (0,0) h.blk];exact hv
theorem RM.row (h:RM w B c m vA vO):
  ∃a cap,vA= .slice a m.all.length cap/\ ∀i,i<m.all.length-> ∃g,a=some ⟨g,0,none⟩/\g<w.heap.size/\ ∀j,j<5->w.cell? ⟨g,i * 5+j,none⟩=some (.int .i64 (odf (nth m.all i) j)):=by
 rcases h.all.2 with ⟨h1,h2⟩|⟨g,cap,cur,h1,h2,h3,h4,h5,h6,h7⟩
 .exact⟨none,0,by rw[h1,h2],fun i hi=>by omega⟩
 .refine⟨_,cap,h1,fun i hi=>⟨g,rfl,(gsi.1 h3).1,fun j hj=>?_⟩⟩
  rw[cell_of_row w g (i * 5+j) cur 171 (0,0) h3]
  have hq:=odcs_get m.all i j hi hj
  rw[←h7,List.getElem?_take] at hq
  split at hq
  .simpa using hq
  .cases hq
theorem zac (w:World)(o:Obj):Below w.heap.size w (w.alloc o):=br.alloc nr o
theorem plain_any (o:Od)(w:World)(R:EW)(hR: ∀w',Below w.heap.size w w'->R (.returned (.bool (pl o))) w'):
  Calls Tryz.prog 174 #[odv o] w R:=by
 unfold odv
 by_cases h2:o.typ=2
 .have hfin:Hid (∀w',Below w.heap.size w w'->R (.returned (.bool true)) w'):=fun w' hb=>zam (hR w' hb) (by simp[pl,h2])
  clear hR
  go_enter Tryz.func174,Tryz.ntmps174
  go_wp2
  exact hfin.o _ (zac _ _)
 .by_cases h3:o.typ=3
  .have hfin:Hid (∀w',Below w.heap.size w w'->R (.returned (.bool true)) w'):=fun w' hb=>zam (hR w' hb) (by simp[pl,h3])
   clear hR
   go_enter Tryz.func174,Tryz.ntmps174
   go_wp2
   exact hfin.o _ (zac _ _)
  .have hfin:Hid (∀w',Below w.heap.size w w'->R (.returned (.bool false)) w'):=fun w' hb=>zam (hR w' hb) (by simp[pl,h2,h3])
   have f2:((o.typ:Int)==2)=false:=by simp;omega
   have f3:((o.typ:Int)==3)=false:=by simp;omega
   clear hR
   go_enter Tryz.func174,Tryz.ntmps174
   go_wp2
   exact hfin.o _ (zac _ _)
theorem Waits_any (o:Od)(B ph:Nat)(w:World)(R:EW)(hP:w.cell? ⟨B,6,none⟩=some (.int .i64 ph))(hR: ∀w',Below w.heap.size w w'->R (.returned (.bool (wt ph o))) w'):
  Calls Tryz.prog 108 #[.pointer (some ⟨B,0,none⟩),odv o] w R:=by
 have hlt:=zab hP
 unfold odv
 by_cases h4:o.typ=4
 .have hfin:Hid (∀w',Below w.heap.size w w'->R (.returned (.bool (decide ((ph:Int)<2)))) w'):=fun w' hb=>zam (hR w' hb) (by simp[wt,h4];omega)
  clear hR
  go_enter Tryz.func108,Tryz.ntmps108
  go_wp2
  exact hfin.o _ (zac _ _)
 .have hfin:Hid (∀w',Below w.heap.size w w'->R (.returned (.bool false)) w'):=fun w' hb=>zam (hR w' hb) (by simp[wt,h4])
  have f4:((o.typ:Int)==4)=false:=by simp;omega
  clear hR
  go_enter Tryz.func108,Tryz.ntmps108
  go_wp2
  exact hfin.o _ (zac _ _)
theorem Waits_of (o:Od)(V:Value)(hV:V=odv o)(B ph:Nat)(w:World)(R:EW)(hP:w.cell? ⟨B,6,none⟩=some (.int .i64 ph))(hR: ∀w',Below w.heap.size w w'->R (.returned (.bool (wt ph o))) w'):
  Calls Tryz.prog 108 #[.pointer (some ⟨B,0,none⟩),V] w R:=by subst hV;exact Waits_any o B ph w R hP hR
theorem zfr (o:Od)(V:Value)(hV:V=odv o)(w:World)(R:EW)(hR: ∀w',Below w.heap.size w w'->R (.returned (.bool (pl o))) w'):
  Calls Tryz.prog 174 #[V] w R:=by subst hV;exact plain_any o w R hR
structure OdAt (w:World) (E:Nat) (o:Od):Prop where
 c0:w.cell? ⟨E,0,none⟩=some (.int .i64 o.id)
 c1:w.cell? ⟨E,1,none⟩=some (.int .i64 o.side)
 c2:w.cell? ⟨E,2,none⟩=some (.int .i64 o.typ)
 c3:w.cell? ⟨E,3,none⟩=some (.int .i64 o.price)
 c4:w.cell? ⟨E,4,none⟩=some (.int .i64 o.rest)
theorem OdAt.new (w:World)(o:Od)(t:TypeId):OdAt (w.alloc (.cells #[.int .i64 o.id,.int .i64 o.side,.int .i64 o.typ,.int .i64 o.price,.int .i64 o.rest] t)) w.heap.size o:=by
 have h: ∀i,(w.alloc (.cells #[.int .i64 o.id,.int .i64 o.side,.int .i64 o.typ,.int .i64 o.price,.int .i64 o.rest] t)).cell? ⟨w.heap.size,i,none⟩=(#[.int .i64 o.id,.int .i64 o.side,.int .i64 o.typ,.int .i64 o.price,.int .i64 o.rest]:Array Value)[i]?:=
  fun i=>cell_of_row _ _ i _ _ (0,0) (heap_alloc_new w _)
 exact⟨h 0,h 1,h 2,h 3,h 4⟩
theorem OdAt.ext {E:Nat}{o:Od}(h:OdAt w E o)(hb:Below w.heap.size w w'):OdAt w' E o:=
 ⟨(hb.cell (zab h.c0)).trans h.c0,(hb.cell (zab h.c1)).trans h.c1,(hb.cell (zab h.c2)).trans h.c2,(hb.cell (zab h.c3)).trans h.c3,(hb.cell (zab h.c4)).trans h.c4⟩
theorem zaa {g i:Nat}(hb:Below w.heap.size w w')(h:w.cell? ⟨g,i,none⟩=some v):w'.cell? ⟨g,i,none⟩=some v:=(hb.cell (zab h)).trans h
theorem zad {w1 w2:World}(h:Below w.heap.size w w1)(k:Below w1.heap.size w1 w2):Below w.heap.size w w2:=h.trans (k.mono h.size)
theorem booked_any (o:Od)(B ph:Nat)(w:World)(R:EW)(hP:w.cell? ⟨B,6,none⟩=some (.int .i64 ph))(hR: ∀w',Below w.heap.size w w'->R (.returned (.bool (bk ph o))) w'):
  Calls Tryz.prog 176 #[.pointer (some ⟨B,0,none⟩),odv o] w R:=by
 have hlt:=zab hP
 unfold odv
 have HR:=zl hR
 clear hR
 have hO:=OdAt.new w o 171
 have hb0:=zac w (.cells #[.int .i64 o.id,.int .i64 o.side,.int .i64 o.typ,.int .i64 o.price,.int .i64 o.rest] 171)
 have hP0:=zaa hb0 hP
 go_enter Tryz.func176,Tryz.ntmps176
 go_wp2_with fail
 generalize w.alloc (.cells #[.int .i64 o.id,.int .i64 o.side,.int .i64 o.typ,.int .i64 o.price,.int .i64 o.rest] 171)=W1 at *
 refine Waits_of o _ (by rfl) B ph _ _ hP0 ?_
 intro w1 hb1
 have hc4:=(hO.ext hb1).c4
 have HB:Hid (Below w.heap.size w w1):=zad hb0 hb1
 have HR':Hid (R (.returned (.bool (bk ph o))) w1):=HR.o _ HB.o
 clear hO hb0 hP0 hb1 HR
 unfold bk at HR'
 by_cases hr:0<o.rest
 .cases hw:wt ph o with
  |true=>
   rw[hw] at HR'
   go_wp2_with fail
   exact zam HR'.o (by simp)
  |false=>
   rw[hw] at HR'
   go_wp2_with fail
   exact zam HR'.o (by simp[hr])
 .go_wp2_with fail
  exact zam HR'.o (by simp[hr])
theorem zlb (o:Od)(V:Value)(hV:V=odv o)(B ph:Nat)(w:World)(R:EW)(hP:w.cell? ⟨B,6,none⟩=some (.int .i64 ph))(hR: ∀w',Below w.heap.size w w'->R (.returned (.bool (bk ph o))) w'):
  Calls Tryz.prog 176 #[.pointer (some ⟨B,0,none⟩),V] w R:=by subst hV;exact booked_any o B ph w R hP hR
theorem takes_any (o:Od)(p:Nat)(w:World)(R:EW)(hR: ∀w',Below w.heap.size w w'->R (.returned (.bool (tk o p))) w'):
  Calls Tryz.prog 143 #[odv o,.int .i64 p] w R:=by
 unfold odv
 have HR:=zl hR
 clear hR
 have hO:=OdAt.new w o 171
 have hb0:=zac w (.cells #[.int .i64 o.id,.int .i64 o.side,.int .i64 o.typ,.int .i64 o.price,.int .i64 o.rest] 171)
 go_enter Tryz.func143,Tryz.ntmps143
 go_wp2_with fail
 generalize w.alloc (.cells #[.int .i64 o.id,.int .i64 o.side,.int .i64 o.typ,.int .i64 o.price,.int .i64 o.rest] 171)=W1 at *
 refine zfr o _ (by rfl) _ _ ?_
 intro w1 hb1
 have hc1:=(hO.ext hb1).c1
 have hc3:=(hO.ext hb1).c3
 have HB:Hid (Below w.heap.size w w1):=zad hb0 hb1
 have HR':Hid (R (.returned (.bool (tk o p))) w1):=HR.o _ HB.o
 clear hO hb0 hb1 HR
 unfold tk at HR'
 cases hw:pl o with
 |true=>
  rw[hw] at HR'
  go_wp2_with fail
  exact zam HR'.o (by simp)
 |false=>
  rw[hw] at HR'
  by_cases hs:o.side=1
  .go_wp2_with fail
   exact zam HR'.o (by simp[hs])
  .have f1:((o.side:Int)==1)=false:=by simp;omega
   go_wp2_with fail
   exact zam HR'.o (by simp[hs])
theorem takes_of (o:Od)(V:Value)(hV:V=odv o)(p:Nat)(w:World)(R:EW)(hR: ∀w',Below w.heap.size w w'->R (.returned (.bool (tk o p))) w'):
  Calls Tryz.prog 143 #[V,.int .i64 p] w R:=by subst hV;exact takes_any o p w R hR
theorem zga (a b:Nat)(w:World)(R:EW)(hR:R (.returned (.int .i64 (min a b:Nat))) w):Calls Tryz.prog 145 #[.int .i64 a,.int .i64 b] w R:=by
 have HR:=zl hR
 clear hR
 by_cases h:a<b
 .have h':(a:Int)<b:=by omega
  go_enter Tryz.func145,Tryz.ntmps145
  go_wp2
  exact zci HR.o (by rw[Nat.min_eq_left (by omega)];rfl)
 .have h': ¬(a:Int)<b:=by omega
  go_enter Tryz.func145,Tryz.ntmps145
  go_wp2
  exact zci HR.o (by rw[Nat.min_eq_right (by omega)])
theorem zgc (a b:Nat)(w:World)(R:EW)(ha:a<=1000000000000)(hb:b<=1000000000000)(hR:R (.returned (.int .i64 (gp a b:Nat))) w):Calls Tryz.prog 206 #[.int .i64 a,.int .i64 b] w R:=by
 have HR:=zl hR
 clear hR
 by_cases h:a<b
 .have h':(a:Int)<b:=by omega
  go_enter Tryz.func206,Tryz.ntmps206
  go_wp2
  exact zci HR.o (by unfold gp;rw[if_pos h];go_num)
 .have h': ¬(a:Int)<b:=by omega
  go_enter Tryz.func206,Tryz.ntmps206
  go_wp2
  exact zci HR.o (by unfold gp;rw[if_neg h];go_num)
end
section
open Go.RowKit
theorem dep_take (ph:Nat)(l:List Od)(s p i:Nat)(h:i<l.length):dep ph (l.take (i+1)) s p=dep ph (l.take i) s p+if zdq ph s p (nth l i) then (nth l i).rest else 0:=by
 have:l.take (i+1)=l.take i++[nth l i]:=zag l i _ (by simp[nth,h])
 rw[this]
 unfold dep
 rw[List.filter_append,List.map_append,List.sum_append]
 congr 1
 by_cases hc:zdq ph s p (nth l i)<;>simp[hc]
theorem dep_take_le (ph:Nat)(l:List Od)(s p i:Nat):dep ph (l.take i) s p<=dep ph l s p:=by
 conv=>rhs;rw[←List.take_append_drop i l]
 unfold dep
 rw[List.filter_append,List.map_append,List.sum_append]
 exact Nat.le_add_right _ _
structure RV (w:World) (B ph ref:Nat) (a:Option Addr) (cap:Nat) (l:List Od):Prop where
 hp:w.cell? ⟨B,6,none⟩=some (.int .i64 ph)
 hr:w.cell? ⟨B,8,none⟩=some (.int .i64 ref)
 ha:w.cell? ⟨B,10,none⟩=some (.slice a l.length cap)
 cells: ∀i,i<l.length-> ∃g,a=some ⟨g,0,none⟩/\g<w.heap.size/\ ∀j,j<5->w.cell? ⟨g,i * 5+j,none⟩=some (.int .i64 (odf (nth l i) j))
variable {B cap ph ref:Nat} {w:World}
theorem RM.rv {c:Cf}{m:Mk}{vA vO:Value}(h:RM w B c m vA vO): ∃a cap,RV w B m.phase m.ref a cap m.all/\vA= .slice a m.all.length cap:=by
 obtain ⟨a,cap,rfl,hc⟩:=h.row
 exact⟨a,cap,⟨h.cells 6 _ rfl,h.cells 8 _ rfl,h.cells 10 _ rfl,hc⟩,rfl⟩
variable {l:List Od} {a:Option Addr}
theorem RV.ext {w':World}(h:RV w B ph ref a cap l)(hb:Below w.heap.size w w'):RV w' B ph ref a cap l:=
 ⟨zaa hb h.hp,zaa hb h.hr,zaa hb h.ha,fun i hi=>by obtain ⟨g,h1,h2,h3⟩:=h.cells i hi;exact⟨g,h1,lll h2 hb.size,fun j hj=>zaa hb (h3 j hj)⟩⟩
theorem RV.at (h:RV w B ph ref a cap l)(i:Nat)(hi:i<l.length):
  ∃g,a=some ⟨g,0,none⟩/\w.cell? ⟨g,i * 5,none⟩=some (.int .i64 (nth l i).id)/\w.cell? ⟨g,i * 5+1,none⟩=some (.int .i64 (nth l i).side)/\w.cell? ⟨g,i * 5+2,none⟩=some (.int .i64 (nth l i).typ)/\w.cell? ⟨g,i * 5+3,none⟩=some (.int .i64 (nth l i).price)/\w.cell? ⟨g,i * 5+4,none⟩=some (.int .i64 (nth l i).rest):=by
 obtain ⟨g,h1,_,h3⟩:=h.cells i hi
 exact⟨g,h1,h3 0 (by decide),h3 1 (by decide),h3 2 (by decide),h3 3 (by decide),h3 4 (by decide)⟩
theorem ze2 (B ph ref:Nat)(a:Option Addr)(cap:Nat)(l:List Od)(s p:Nat)(w:World)(R:EW)(h:RV w B ph ref a cap l)(hn:l.length<=1073741824)(hd:dep ph l s p<=1000000000000)
  (hR: ∀w',Below w.heap.size w w'->R (.returned (.int .i64 (dep ph l s p:Nat))) w'):
  Calls Tryz.prog 205 #[.pointer (some ⟨B,0,none⟩),.int .i64 s,.int .i64 p] w R:=by
 have HR:=zl hR
 have HV:=zl h
 clear hR h
 have hd0: ∀i,i<=l.length->dep ph (l.take i) s p<=dep ph l s p:=fun i hi=>dep_take_le ph l s p i
 go_enter Tryz.func205,Tryz.ntmps205
 go_wp2_with fail
 go_loopw [7,8,9,10] (fun n i _ _ wr=> ∃k:Nat,k<=l.length/\i= .int .i64 k/\n= .int .i64 (dep ph (l.take k) s p:Nat)/\Below w.heap.size w wr) (fun _ i _ _ _=>l.length-(intOf i).toNat)
 case atStart=>exact⟨0,Nat.zero_le _,rfl,rfl,br⟩
 case round=>
  obtain ⟨k,hk,rfl,rfl,hb⟩:=hrel
  have HB:=zl hb
  have HVr:=zl (HV.o.ext hb)
  have ha:=HVr.o.ha
  clear hb
  by_cases hkn:k<l.length
  .obtain ⟨g,rfl,c0,c1,c2,c3,c4⟩:=HVr.o.at k hkn
   have hst:=dep_take ph l s p k hkn
   have hd1:=hd0 (k+1) hkn
   have HS:=zl hst
   generalize dep ph (l.take k) s p=D at *
   generalize hO:nth l k=O at *
   clear hst hd0
   go_wp2_with fail
   refine zlb O _ (by rfl) B ph _ _ HVr.o.hp ?_
   intro w1 hb1
   have HV1:=zl (HVr.o.ext hb1)
   have HB1:Hid (Below w.heap.size w w1):=zad HB.o hb1
   have ha1:=HV1.o.ha
   replace c0:=zaa hb1 c0
   replace c1:=zaa hb1 c1
   replace c2:=zaa hb1 c2
   replace c3:=zaa hb1 c3
   replace c4:=zaa hb1 c4
   clear hb1 ha
   go_wp2_with fail
   refine takes_of O _ (by rfl) p _ _ ?_
   intro w2 hb2
   have HV2:=zl (HV1.o.ext hb2)
   have HB2:Hid (Below w.heap.size w w2):=zad HB1.o hb2
   have ha2:=HV2.o.ha
   replace c1:=zaa hb2 c1
   replace c4:=zaa hb2 c4
   clear hb2 ha1 c0 c2 c3
   unfold zdq at HS
   cases h1:bk ph O with
   |false=>
    have HE:Hid (dep ph (l.take (k+1)) s p=D):=by have:=HS.o;simp[h1] at this;exact this
    go_wp2_with fail
    go_roundw
    case rel=>exact⟨k+1,by omega,by go_num,by rw[HE.o],HB2.o⟩
    case measure=>simp[intOf];omega
   |true=>
    cases h2:tk O p with
    |false=>
     have HE:Hid (dep ph (l.take (k+1)) s p=D):=by have:=HS.o;simp[h2] at this;exact this
     go_wp2_with fail
     go_roundw
     case rel=>exact⟨k+1,by omega,by go_num,by rw[HE.o],HB2.o⟩
     case measure=>simp[intOf];omega
    |true=>
     by_cases h3:O.side=s
     .have HE:Hid (dep ph (l.take (k+1)) s p=D+O.rest):=by have:=HS.o;simp[h1,h2,h3] at this;exact this
      have hle:=HE.o
      rw[hle] at hd1
      clear hle
      go_wp2_with fail
      go_roundw
      case rel=>exact⟨k+1,by omega,by go_num,by rw[HE.o];go_num,HB2.o⟩
      case measure=>simp[intOf];omega
     .have HE:Hid (dep ph (l.take (k+1)) s p=D):=by have:=HS.o;simp[h1,h2,h3] at this;exact this
      have f3:((O.side:Int)==s)=false:=by simp;omega
      go_wp2_with fail
      go_roundw
      case rel=>exact⟨k+1,by omega,by go_num,by rw[HE.o],HB2.o⟩
      case measure=>simp[intOf];omega
  .have hk':k=l.length:=by omega
   subst hk'
   rw[List.take_length]
   have hfin:Hid (R (.returned (.int .i64 (dep ph l s p:Nat))) wr):=HR.o _ HB.o
   clear hd0
   go_wp2_with fail
   exact hfin.o
theorem cnd_take (ph r:Nat)(l:List Od)(i:Nat)(h:i<l.length):cnd ph r (l.take (i+1))=cnd ph r (l.take i)++if inCnd ph (nth l i) then [(nth l i).price] else []:=by
 have:l.take (i+1)=l.take i++[nth l i]:=zag l i _ (by simp[nth,h])
 rw[this]
 unfold cnd
 rw[List.filter_append,List.map_append]
 by_cases hc:inCnd ph (nth l i)<;>simp[hc]
theorem cnd_len (ph r:Nat)(l:List Od):(cnd ph r l).length<=l.length+1:=by
 unfold cnd
 simp only[List.length_cons,List.length_map]
 have:=List.length_filter_le (inCnd ph) l
 omega
theorem Tryz.infoIntR:(Tryz.prog.info? 3).map (fun i=>(i.zero,i.size,i.bytes))=some (some (.int .i64 0),1,8):=by kernel_rfl
theorem candidates_any (B ph ref:Nat)(a:Option Addr)(cap:Nat)(l:List Od)(w:World)(R:EW)(h:RV w B ph ref a cap l)(hn:l.length<=1048576)
  (hR: ∀v w',Below w.heap.size w w'->w'.ownsRow w.heap.size 3 1 v (cnd ph ref l).length ((cnd ph ref l).map fun x:Nat=> .int .i64 x)->R (.returned v) w'):
  Calls Tryz.prog 204 #[.pointer (some ⟨B,0,none⟩)] w R:=by
 have HR:=zl hR
 have HV:=zl h
 have hr:=h.hr
 clear hR h
 go_enter Tryz.func204,Tryz.ntmps204
 go_wp2_with fail
 go_loopw [3,4,5,6] (fun v i _ _ wr=> ∃k:Nat,k<=l.length/\i= .int .i64 k/\Below w.heap.size w wr/\wr.ownsRow w.heap.size 3 1 v (cnd ph ref (l.take k)).length ((cnd ph ref (l.take k)).map fun x:Nat=> .int .i64 x)) (fun _ i _ _ _=>l.length-(intOf i).toNat)
 case atStart=>exact⟨0,Nat.zero_le _,rfl,zac _ _,by simpa [cnd] using zft w #[.int .i64 (ref:Nat)] 1 nr rfl (by decide)⟩
 case round=>
  obtain ⟨k,hk,rfl,hb,hown⟩:=hrel
  have HB:=zl hb
  have HW:=zl hown
  have HVr:=zl (HV.o.ext hb)
  have ha:=HVr.o.ha
  clear hb hr hown
  by_cases hkn:k<l.length
  .obtain ⟨g,rfl,c0,c1,c2,c3,c4⟩:=HVr.o.at k hkn
   have HS:Hid (cnd ph ref (l.take (k+1))=cnd ph ref (l.take k)++if inCnd ph (nth l k) then [(nth l k).price] else []):=cnd_take ph ref l k hkn
   have hlen:=cnd_len ph ref (l.take k)
   have hlt:(l.take k).length=k:=by simp;omega
   rw[hlt] at hlen
   clear hlt
   generalize cnd ph ref (l.take k)=D at *
   generalize hO:nth l k=O at *
   go_wp2_with fail
   refine zlb O _ (by rfl) B ph _ _ HVr.o.hp ?_
   intro w1 hb1
   have HV1:=zl (HVr.o.ext hb1)
   have HB1:Hid (Below w.heap.size w w1):=zad HB.o hb1
   have HW1:Hid (w1.ownsRow w.heap.size 3 1 u3 D.length (D.map fun x:Nat=> .int .i64 x)):=zbe HW.o hb1
   have ha1:=HV1.o.ha
   replace c0:=zaa hb1 c0
   replace c1:=zaa hb1 c1
   replace c2:=zaa hb1 c2
   replace c3:=zaa hb1 c3
   replace c4:=zaa hb1 c4
   clear hb1 ha
   go_wp2_with fail
   refine zfr O _ (by rfl) _ _ ?_
   intro w2 hb2
   have HV2:=zl (HV1.o.ext hb2)
   have HB2:Hid (Below w.heap.size w w2):=zad HB1.o hb2
   have HW2:Hid (w2.ownsRow w.heap.size 3 1 u3 D.length (D.map fun x:Nat=> .int .i64 x)):=zbe HW1.o hb2
   have ha2:=HV2.o.ha
   replace c3:=zaa hb2 c3
   clear hb2 ha1 c0 c2 c1 c4 HW HW1 HB HB1
   unfold inCnd at HS
   cases h1:bk ph O with
   |false=>
    have HE:Hid (cnd ph ref (l.take (k+1))=D):=by have:=HS.o;simp[h1] at this;exact this
    go_wp2_with fail
    go_roundw
    case rel=>exact⟨k+1,by omega,by go_num,HB2.o,by rw[HE.o];exact HW2.o⟩
    case measure=>simp[intOf];omega
   |true=>
    cases h2:pl O with
    |true=>
     have HE:Hid (cnd ph ref (l.take (k+1))=D):=by have:=HS.o;simp[h2] at this;exact this
     go_wp2_with fail
     go_roundw
     case rel=>exact⟨k+1,by omega,by go_num,HB2.o,by rw[HE.o];exact HW2.o⟩
     case measure=>simp[intOf];omega
    |false=>
     have HE:Hid (cnd ph ref (l.take (k+1))=D++[O.price]):=by have:=HS.o;simp[h1,h2] at this;exact this
     have hz2:=HB2.o.size
     have hsz:D.length+1<=1073741824:=by omega
     go_wp2_with (at_builtin;go_must (refine za7 w.heap.size 1 8 D.length _ _ _ HW2.o hz2 Tryz.infoIntR rfl (by decide) rfl ?c2 ?c3 (by decide) _ _ 26 Tryz.underlying26 rfl rfl rfl rfl ?_))
     case c2=>simp[Value.oneCell']
     case c3=>exact hsz
     intro v3 w3 hg3
     have HB3:=zl (HB2.o.grown hg3.grown hz2 fun q hq=>(HW2.o.lt q hq).1)
     have HW3:Hid (w3.ownsRow w.heap.size 3 1 v3 (D++[O.price]).length ((D++[O.price]).map fun x:Nat=> .int .i64 x)):=by
      have:=hg3.own
      rw[List.map_append,List.length_append]
      exact this
     clear hg3
     go_wp2_with fail
     go_roundw
     case rel=>exact⟨k+1,by omega,by go_num,HB3.o,by rw[HE.o];exact HW3.o⟩
     case measure=>simp[intOf];omega
  .have hk':k=l.length:=by omega
   subst hk'
   rw[List.take_length] at HW
   have hfin:Hid (R (.returned u3) wr):=HR.o _ _ HB.o HW.o
   go_wp2_with fail
   exact hfin.o
end
section
theorem zd7 {α β:Type}(f:β->α->β)(P:β->List α->Prop)(b:β)(h0:P b [])(hs: ∀b l x,P b l->P (f b x) (l++[x]))(L:List α):P (L.foldl f b) L:=by
 have: ∀(L l:List α) (b:β),P b l->P (L.foldl f b) (l++L):=by
  intro L
  induction L with
  |nil=>intro l b h;simpa using h
  |cons x L ih=>intro l b h;have:=ih (l++[x]) (f b x) (hs b l x h);simpa using this
 simpa using this L [] b h0
theorem zg2 (v:Nat->Nat)(L:List Nat):(zdo v L=0\/ ∃p∈L,v p=zdo v L)/\ ∀p∈L,v p<=zdo v L:=by
 unfold zdo
 refine zd7 _ (fun a l=>(a=0\/ ∃p∈l,v p=a)/\ ∀p∈l,v p<=a) 0 ⟨.inl rfl,by simp⟩ ?_ L
 intro a l x ⟨h1,h2⟩
 split
 .rename_i h
  refine⟨.inr ⟨x,by simp,rfl⟩,fun p hp=>?_⟩
  rcases List.mem_append.1 hp with hp|hp
  .exact Nat.le_of_lt (Nat.lt_of_le_of_lt (h2 p hp) h)
  .simp only[List.mem_singleton] at hp
   rw[hp]
   exact nr
 .rename_i h
  refine⟨?_,fun p hp=>?_⟩
  .rcases h1 with h1|⟨p,hp,e⟩
   .exact .inl h1
   .exact .inr ⟨p,by simp[hp],e⟩
  .rcases List.mem_append.1 hp with hp|hp
   .exact h2 p hp
   .simp only[List.mem_singleton] at hp
    rw[hp]
    omega
theorem zif (v g:Nat->Nat)(M:Nat)(L:List Nat):(zfc v g M L= -1/\ ∀p∈L,v p≠M)\/((∃p∈L,v p=M/\(g p:Int)=zfc v g M L)/\ ∀p∈L,v p=M->zfc v g M L<=(g p:Int)):=by
 unfold zfc
 refine zd7 _ (fun (a:Int) l=>(a= -1/\ ∀p∈l,v p≠M)\/((∃p∈l,v p=M/\(g p:Int)=a)/\ ∀p∈l,v p=M->a<=(g p:Int))) (-1) (.inl ⟨rfl,by simp⟩) ?_ L
 intro a l x h
 split
 .rename_i hc
  refine .inr ⟨⟨x,by simp,hc.1,rfl⟩,fun p hp e=>?_⟩
  rcases List.mem_append.1 hp with hp|hp
  .rcases h with ⟨_,h⟩|⟨⟨q,_,_,e2⟩,h⟩
   .exact absurd e (h p hp)
   .have:=h p hp e
    rcases hc.2 with h3|h3<;>omega
  .simp only[List.mem_singleton] at hp
   rw[hp]
   exact Int.le_refl _
 .rename_i hc
  rcases h with ⟨e,h⟩|⟨⟨q,hq,e1,e2⟩,h⟩
  .refine .inl ⟨e,fun p hp=>?_⟩
   rcases List.mem_append.1 hp with hp|hp
   .exact h p hp
   .simp only[List.mem_singleton] at hp
    rw[hp]
    exact fun e3=>hc ⟨e3,.inl (by omega)⟩
  .refine .inr ⟨⟨q,by simp[hq],e1,e2⟩,fun p hp e=>?_⟩
   rcases List.mem_append.1 hp with hp|hp
   .exact h p hp e
   .simp only[List.mem_singleton] at hp
    rw[hp] at e ⊢
    refine Int.not_lt.1 fun e3=>hc ⟨e,.inr e3⟩
theorem zjv (ph R:Nat)(l:List Od)(h:zcn ph R l≠0):0<(zcp ph R l).length:=by
 rcases (zg2 (vof ph l) (cnd ph R l)).1 with h1|⟨p,hp,e⟩
 .exact absurd h1 h
 .rcases zif (vof ph l) (gof ph l) (zcn ph R l) (cnd ph R l) with ⟨_,h2⟩|⟨⟨q,hq,e1,e2⟩,_⟩
  .exact absurd e (h2 p hp)
  .have:q∈zcp ph R l:=by
    unfold zcp zcz
    simp only[List.mem_filter,decide_eq_true_eq]
    exact⟨hq,e1,e2⟩
   exact List.length_pos_of_mem this
theorem left_sub (ph R:Nat)(l:List Od)(p:Nat)(h:p∈zcp ph R l):p∈cnd ph R l:=by
 unfold zcp zcz at h
 exact(List.mem_filter.1 h).1
theorem pickOf_step (b s:Bool)(R p:Nat)(L:List Nat)(k X:Nat)(h:L[k]?=some X):zcb b s R p (L.take (k+1))=
  if (b&&decide (zcb b s R p (L.take k)<X))||((s&&decide (X<zcb b s R p (L.take k)))||((!b&&!s)&&zi6 R X (zcb b s R p (L.take k)))) then X else zcb b s R p (L.take k):=by
 unfold zcb
 rw[zag L k X h,List.foldl_append]
 rfl
theorem zic (b s:Bool)(R p:Nat)(L:List Nat):zcb b s R p L=p\/zcb b s R p L∈L:=by
 unfold zcb
 refine zd7 _ (fun a l=>a=p\/a∈l) p (.inl rfl) ?_ L
 intro a l x h
 split
 .exact .inr (by simp)
 .rcases h with h|h
  .exact .inl h
  .exact .inr (by simp[h])
end
