import Derived.WalkKit
import Derived.WalkSpells
import Derived.WalkLawsBesides
import Derived.Maps.AppendAt
import Derived.Deep.AppendLies
import Derived.Test.YtmiiejinahnpkaaGreatDoorAx
namespace Go.Proofs.YtmiiejinahnpkaaGreatDoor
open Go.RowKit
def bv (x:Int):Value:= .int .u8 x
def iv (x:Int):Value:= .int .i64 x
def be (V:Int):Nat->List Int
 |0=>[]
 |n+1=>(V/256^n%256)::be V n
theorem zb8 (V:Int)(n:Nat):(be V n).length=n:=by
 induction n with
 |zero=>rfl
 |succ n ih=>simp[be,ih]
theorem be_get (V:Int)(n j:Nat)(h:j<n):(be V n)[j]?=some (V/256^(n-1-j)%256):=by
 induction n generalizing j with
 |zero=>omega
 |succ n ih=>
  cases j with
  |zero=>simp[be]
  |succ j=>
   simp only[be,List.getElem?_cons_succ]
   rw[ih j (by omega),show n+1-1-(j+1)=n-1-j by omega]
theorem zag {α:Type}(l:List α)(j:Nat)(x:α)(h:l[j]?=some x):l.take (j+1)=l.take j++[x]:=by
 rw[List.take_add_one,h]
 rfl
theorem pow256 (i:Nat):(2:Int)^(8 * i)=256^i:=by rw[Int.pow_mul];rfl
theorem be_take (V:Int)(m j k:Nat)(h:j<m)(hk:(m:Int)-1-j=k):(be V m).take (j+1)=(be V m).take j++[V/256^k%256]:=by
 rw[zag _ _ _ (be_get V m j h),show m-1-j=k by omega]
variable {R:EW} {w w1 w2:World}
theorem zam {a b:Bool}(h:R (.returned (.bool a)) w)(e:a=b):R (.returned (.bool b)) w:=e▸h
theorem zci {a b:Value}(h:R (.returned a) w)(e:a=b):R (.returned b) w:=e▸h
structure Grew (B:Nat) (e:TypeId) (size:Nat) (w:World) (v:Value) (w':World) (v':Value) (n':Nat) (xs':List Value):Prop where
 own:w'.ownsRow B e size v' n' xs'
 grown:w.grownBy w' v.ownBlock
 lies:v'.ownBlock=v.ownBlock\/ ∀g,v'.ownBlock=some g->w.heap.size<=g
variable {x2 xs:List Value} {B n n2 size:Nat} {e:TypeId} {v v2:Value}
theorem Grew.cast {w':World}{v':Value}{n':Nat}{xs':List Value}
  (h:Grew B e size w v w' v' n xs)(hn:n=n')(hx:xs=xs'):Grew B e size w v w' v' n' xs':=by subst hn;subst hx;exact h
theorem grownBy_refl (w:World)(r:Option Nat):w.grownBy w r:=⟨rfl,rfl,rfl,nr,fun _ _ _=>rfl⟩
theorem Grew.refl (h:w.ownsRow B e size v n xs):Grew B e size w v w v n xs:=
 ⟨h,grownBy_refl _ _,.inl rfl⟩
theorem Grew.trans {v1:Value}{n1:Nat}{x1:List Value}
  (h:Grew B e size w v w1 v1 n1 x1)(k:Grew B e size w1 v1 w2 v2 n2 x2):Grew B e size w v w2 v2 n2 x2:=by
 refine⟨k.own,⟨k.grown.os.trans h.grown.os,k.grown.tape.trans h.grown.tape,k.grown.output.trans h.grown.output,llt h.grown.size k.grown.size,?_⟩,?_⟩
 .intro b hb hne
  rw[k.grown.block b (lll hb h.grown.size) ?_,h.grown.block b hb hne]
  intro e1
  rcases h.lies with h1|h1
  .exact hne (e1.trans h1)
  .have:=h1 b e1.symm;omega
 .rcases k.lies with k1|k1
  .rcases h.lies with h1|h1
   .exact .inl (k1.trans h1)
   .exact .inr fun g hg=>h1 g (k1▸hg)
  .exact .inr fun g hg=>llt h.grown.size (k1 g hg)
theorem Grew.alloc {o:Obj}
  (k:Grew B e size (w.alloc o) v w2 v2 n2 x2):Grew B e size w v w2 v2 n2 x2:=by
 refine⟨k.own,⟨k.grown.os,k.grown.tape,k.grown.output,llt (by simp) k.grown.size,?_⟩,?_⟩
 .intro b hb hne
  rw[k.grown.block b (by simp;omega) hne,Below.heap_alloc _ _ _ hb]
 .rcases k.lies with k1|k1
  .exact .inl k1
  .exact .inr fun g hg=>by have:=k1 g hg;simp at this;omega
theorem Grew.below {C:Nat}
  (k:Grew B e size w v w2 v2 n2 x2)(hC:C<=w.heap.size)(hv: ∀g,v.ownBlock=some g->C<=g):Below C w w2:=
 ⟨k.grown.os,k.grown.tape,k.grown.output,k.grown.size,fun b hb=>k.grown.block b (by omega) (fun e=>by have:=hv b e.symm;omega)⟩
theorem Grew.of_lies {g cap:Nat}(o:Obj)
  (hown:w1.ownsRow B e size (.slice (some ⟨g,0,none⟩) n cap) n xs)(hg:(w.alloc o).grownBy w1 v.ownBlock)(hat:v.ownBlock=some g\/g=w.heap.size+1):
  Grew B e size w v w1 (.slice (some ⟨g,0,none⟩) n cap) n xs:=by
 refine Grew.alloc (o:=o) ⟨hown,hg,?_⟩
 rcases hat with h|h
 .exact .inl (by rw[h];rfl)
 .exact .inr fun k hk=>by simp[Value.ownBlock] at hk;simp;omega
theorem za7 {P:Program}{ops:Array Oper}{rest:List Oper}{o:Oper}{a:Act}{Q:Exit->Act->World->Prop}{W:World}{arr:Array Value}
  (B size bytes n:Nat)(v:Value)(xs:List Value)(z:Value)(hown:W.ownsRow B e size v n xs)(hB:B<=W.heap.size)
  (hinfo:(P.info? e).map (fun i=>(i.zero,i.size,i.bytes))=some (some z,size,bytes))(hzs:z.cells.size=size)(hsz:0<size)(harr:arr.size=size)
  (h1: ∀u∈arr.toList,u.oneCell'=true)(hn:n+1<=1073741824)(hby:bytes<=256)
  (s y:Operand)(t:TypeId)(ht:P.underlying t=some (.slice e))(hgd:o.guard=none)(ho:o.op= .call {callee:= .builtin .append,args:= #[s,y],argTypes:= #[t,t]})
  (hs:a.eval s=v)(hy:a.eval y= .slice (some ⟨W.heap.size,0,none⟩) 1 1)
  (h: ∀v' w',Grew B e size W v w' v' (n+1) (xs++arr.toList)->wpList P ops Q rest (a.put o.dst v') w'):
  wpList P ops Q (o::rest) a (W.alloc (.cells arr e)):=by
 obtain ⟨i0,hi,hz0,hz1,hz2⟩:=info_parts hinfo
 refine wpList_append_lies _ hgd s y t ho B e i0 z size bytes ht hi hz0 hz1 hz2 hzs hsz v n xs hs (hown.alloc _) ⟨W.heap.size,0,none⟩ 1 1 arr.toList hy (by simp[harr])
  (World.news_of_block (heap_alloc_new W _)) h1 (by decide) (by unfold maxLen;omega) ?_ (by simp;omega) (W.heap.size+1) (by simp) ?_
 .exact llt (Nat.mul_le_mul hn hby) (by decide)
 .intro g cap w1 hown1 hgrow hat _
  exact h _ _ (Grew.of_lies _ hown1 hgrow hat)
theorem zee (h:w.ownsRow B e 1 v n xs)(i:Nat)(u:Value)(hu:xs[i]?=some u):
  ∃g cap,v= .slice (some ⟨g,0,none⟩) n cap/\B<=g/\g<w.heap.size/\n<=cap/\w.cell? ⟨g,i,none⟩=some u/\w.frozen? ⟨g,i,none⟩=false:=by
 rcases h.2 with ⟨_,h0⟩|⟨g,cap,cur,hv,hb,hg,hnc,_,_,htake⟩
 .have:=h.1
  rw[h0] at this
  have:xs=[]:=List.eq_nil_of_length_eq_zero (by simpa using this)
  rw[this] at hu
  simp at hu
 .refine⟨g,cap,hv,hb,(gsi.1 hg).1,hnc,?_,?_⟩
  .rw[cell_of_row w g i cur e (0,0) hg]
   rw[←htake,List.getElem?_take] at hu
   split at hu
   .simpa using hu
   .cases hu
  .simp[World.frozen?,hg]
theorem u64_wrap (x:Int)(h0:0<=x)(h1:x<18446744073709551616):IntKind.u64.wrap x=x:=by
 rw[IntKind.wrap_u64]
 omega
theorem zab {b o:Nat}(h:w.cell? ⟨b,o,none⟩=some v):b<w.heap.size:=World.block_lt_of_cell? w ⟨b,o,none⟩ h
def evv (e:Nat->Int):Value:= .agg #[.int .i64 (e 0),.int .i64 (e 1),.int .i64 (e 2),.int .i64 (e 3),.int .i64 (e 4),.int .i64 (e 5),.int .i64 (e 6),.int .i64 (e 7),.int .i64 (e 8),.int .i64 (e 9)]
def ze5 (e f:Nat->Int):Bool:=(e 0==f 0)&&((e 1==f 1)&&((e 2==f 2)&&((e 3==f 3)&&((e 4==f 4)&&((e 5==f 5)&&((e 6==f 6)&&((e 7==f 7)&&((e 8==f 8)&&(e 9==f 9)))))))))
theorem zgj (e f:Nat->Int):ze5 e f=true↔ ∀j,j<10->e j=f j:=by
 constructor
 .intro h j hj
  simp only[ze5,Bool.and_eq_true,beq_iff_eq] at h
  obtain ⟨h0,h1,h2,h3,h4,h5,h6,h7,h8,h9⟩:=h
  match j,hj with
  |0,_=>exact h0
  |1,_=>exact h1
  |2,_=>exact h2
  |3,_=>exact h3
  |4,_=>exact h4
  |5,_=>exact h5
  |6,_=>exact h6
  |7,_=>exact h7
  |8,_=>exact h8
  |9,_=>exact h9
 .intro h
  simp only[ze5,Bool.and_eq_true,beq_iff_eq]
  exact⟨h 0 (by omega),h 1 (by omega),h 2 (by omega),h 3 (by omega),h 4 (by omega),h 5 (by omega),h 6 (by omega),h 7 (by omega),h 8 (by omega),h 9 (by omega)⟩
def dg (n d:Nat):Nat:=n/251^d%251
