import Derived.Test.YtmiiejinahnpkaaGreatDoorYG
import Derived.Laws.CopyRow
import Derived.OwnWalk
set_option maxRecDepth 8000
set_option maxHeartbeats 1000000
namespace Go.Proofs.YtmiiejinahnpkaaGreatDoor
open Go.RowKit
section
def zb2 (j:Nat):Prop:=j=1\/j=2\/j=3\/j=4\/j=5\/j=6\/j=7\/j=8
def ty (j:Nat):TypeId:=if j=1 then 31 else if j=7 then 31 else if j=5 then 32 else if j=8 then 32 else if j=3 then 64 else 3
structure WJ (base B:Nat) (own:Nat->Nat×Int) (w:World) (f:Nat->Value) (xs:Nat->List Value) (last:Int) (many:Nat):Prop where
 blk:w.heap[B]?=some (.cells #[f 0,f 1,f 2,f 3,f 4,f 5,f 6,f 7,f 8,.int .i64 last,.int .i64 (many:Nat)] 30 (0,0))
 hB:base<=B
 oB:own B=(0,0)
 z0:xs 0=[f 0]
 rows: ∀j,zb2 j->w.ownsRow base (ty j) 1 (f j) (xs j).length (xs j)
 tags: ∀j,zb2 j-> ∀g,(f j).ownBlock=some g->own g=(1,(j:Int))
variable {B base many:Nat} {e:TypeId} {v v':Value} {a b w w1:World}
theorem zkc {j:Nat}{cur:Array Value}(h:w.heap[B]?=some (.cells cur e (0,0))):(w.setCell ⟨B,j,none⟩ v).heap[B]?=some (.cells (cur.setIfInBounds j v) e (0,0)):=by
 simp[World.setCell,Array.getElem?_modify,h]
variable {T:Nat×Int->Prop} {o1 o2 own:Nat->Nat×Int}
theorem zaj.trans {o3:Nat->Nat×Int}{c:World}(h:zaj base o1 T a o2 b)(k:zaj base o2 T b o3 c):zaj base o1 T a o3 c:=by
 refine⟨llt h.size k.size,fun g hg=>(k.tag g (lll hg h.size)).trans (h.tag g hg),fun g hg hb hT=>?_⟩
 rw[k.blk g (lll hg h.size) hb (by rw[h.tag g hg];exact hT),h.blk g hg hb hT]
theorem zaj.mono {T':Nat×Int->Prop}(h:zaj base o1 T a o2 b)(hT: ∀t,T' t->T t):zaj base o1 T' a o2 b:=
 ⟨h.size,h.tag,fun g hg hb ht=>h.blk g hg hb (hT _ ht)⟩
def za9 (own:Nat->Nat×Int) (w:World) (v:Value) (t:Nat×Int):Nat->Nat×Int:=fun g=>if w.heap.size<=g/\v.ownBlock=some g then t else own g
variable {t:Nat×Int}
theorem zb0 {g:Nat}(h:g<w.heap.size):za9 own w v t g=own g:=by
 unfold za9
 rw[if_neg (by omega)]
theorem Grew.stays {size n':Nat}{xs':List Value}(h:Grew base e size w v w1 v' n' xs')(ht: ∀g,v.ownBlock=some g->own g=t):
  zaj base own (fun x=>x≠t) w (za9 own w v' t) w1/\ ∀g,v'.ownBlock=some g->za9 own w v' t g=t:=by
 refine⟨⟨h.grown.size,fun g hg=>zb0 hg,fun g hg _ hT=>h.grown.block g hg (fun e=>hT (ht g e.symm))⟩,fun g hg=>?_⟩
 unfold za9
 by_cases hlt:w.heap.size<=g
 .rw[if_pos ⟨hlt,hg⟩]
 .rw[if_neg (by omega)]
  rcases h.lies with hl|hl
  .exact ht g (by rw[←hl];exact hg)
  .exact absurd (hl g hg) hlt
variable {last:Int} {xs:Nat->List Value} {f:Nat->Value}
theorem WJ.stays {own':Nat->Nat×Int}{w':World}
  (h:WJ base B own w f xs last many)(hs:zaj base own T w own' w')(h0:T (0,0))(h1: ∀j:Nat,zb2 j->T (1,(j:Int))):WJ base B own' w' f xs last many:=by
 have hlt:=zak h.blk
 exact⟨by rw[hs.blk B hlt h.hB (by rw[h.oB];exact h0)];exact h.blk,h.hB,by rw[hs.tag B hlt];exact h.oB,h.z0,fun j hj=>(zd4 (h.rows j hj) (h.tags j hj) hs (h1 j hj)).1,fun j hj=>(zd4 (h.rows j hj) (h.tags j hj) hs (h1 j hj)).2⟩
theorem WJ.cell (h:WJ base B own w f xs last many)(j:Nat)(hj:j<9):w.cell? ⟨B,j,none⟩=some (f j):=by
 rw[cell_of_row w B j _ _ (0,0) h.blk]
 match j,hj with
 |0,_=>rfl
 |1,_=>rfl
 |2,_=>rfl
 |3,_=>rfl
 |4,_=>rfl
 |5,_=>rfl
 |6,_=>rfl
 |7,_=>rfl
 |8,_=>rfl
theorem WJ.free (h:WJ base B own w f xs last many)(j:Nat):w.frozen? ⟨B,j,none⟩=false:=by simp[World.frozen?,h.blk]
theorem WJ.push {x:Value}
  (h:WJ base B own w f xs last many)(j:Nat)(hj:zb2 j)(hG:Grew base (ty j) 1 w (f j) w1 v' ((xs j).length+1) (xs j++[x])):
  WJ base B (za9 own w v' (1,(j:Int))) (w1.setCell ⟨B,j,none⟩ v') (fun i=>if i=j then v' else f i) (fun i=>if i=j then xs j++[x] else xs i) last many/\
  zaj base own (fun t=>t≠(1,(j:Int))/\t≠(0,0)) w (za9 own w v' (1,(j:Int))) (w1.setCell ⟨B,j,none⟩ v'):=by
 obtain ⟨hs,htv⟩:=hG.stays (h.tags j hj)
 have hlt:=zak h.blk
 have hB1:w1.heap[B]?=w.heap[B]?:=hs.blk B hlt h.hB (by rw[h.oB];simp)
 have hset: ∀g:Nat,g≠B->(w1.setCell ⟨B,j,none⟩ v').heap[g]?=w1.heap[g]?:=fun g hg=>bhs w1 ⟨B,j,none⟩ v' g hg
 have hst:zaj base own (fun t=>t≠(1,(j:Int))/\t≠(0,0)) w (za9 own w v' (1,(j:Int))) (w1.setCell ⟨B,j,none⟩ v'):=by
  refine⟨llt hs.size (by simp[World.setCell]),hs.tag,fun g hg hb hT=>?_⟩
  rw[hset g (fun e=>hT.2 (by rw[e];exact h.oB)),hs.blk g hg hb hT.1]
 refine⟨⟨?_,h.hB,?_,?_,?_,?_⟩,hst⟩
 .rw[zkc (hB1.trans h.blk)]
  rcases hj with rfl|rfl|rfl|rfl|rfl|rfl|rfl|rfl<;>rfl
 .rw[zb0 hlt];exact h.oB
 .have: ¬(0:Nat)=j:=by rcases hj with rfl|rfl|rfl|rfl|rfl|rfl|rfl|rfl<;>decide
  simp only[if_neg this]
  exact h.z0
 .intro i hi
  by_cases hij:i=j
  .subst hij
   simp only[if_true]
   have hn:(xs i++[x]).length=(xs i).length+1:=by simp
   rw[hn]
   have ho:=hG.own
   refine⟨ho.1,?_⟩
   rcases ho.2 with h2|⟨g,cap,cur,rfl,hb,hg,r⟩
   .exact .inl h2
   .refine .inr ⟨g,cap,cur,rfl,hb,?_,r⟩
    rw[hset g (fun e=>by have:=htv g rfl;rw[e,zb0 hlt,h.oB] at this;simp at this)]
    exact hg
  .simp only[if_neg hij]
   exact(zd4 (h.rows i hi) (h.tags i hi) hst ⟨by simp;omega,by simp⟩).1
 .intro i hi g hg
  by_cases hij:i=j
  .subst hij
   simp only[if_true] at hg
   exact htv g hg
  .simp only[if_neg hij] at hg
   exact(zd4 (h.rows i hi) (h.tags i hi) hst ⟨by simp;omega,by simp⟩).2 g hg
theorem WJ.setMany (h:WJ base B own w f xs last many)(m:Nat):
  WJ base B own (w.setCell ⟨B,10,none⟩ (.int .i64 (m:Nat))) f xs last m/\zaj base own (fun t=>t≠(0,0)) w own (w.setCell ⟨B,10,none⟩ (.int .i64 (m:Nat))):=by
 have hst:zaj base own (fun t=>t≠(0,0)) w own (w.setCell ⟨B,10,none⟩ (.int .i64 (m:Nat))):=by
  refine⟨by simp[World.setCell],fun _ _=>rfl,fun g hg hb hT=>?_⟩
  exact bhs w ⟨B,10,none⟩ _ g (fun e=>hT (by rw[e];exact h.oB))
 refine⟨⟨?_,h.hB,h.oB,h.z0,fun j hj=>(zd4 (h.rows j hj) (h.tags j hj) hst (by simp)).1,h.tags⟩,hst⟩
 rw[zkc h.blk]
 rfl
theorem WJ.setLast (h:WJ base B own w f xs last many)(m:Int):
  WJ base B own (w.setCell ⟨B,9,none⟩ (.int .i64 m)) f xs m many/\zaj base own (fun t=>t≠(0,0)) w own (w.setCell ⟨B,9,none⟩ (.int .i64 m)):=by
 have hst:zaj base own (fun t=>t≠(0,0)) w own (w.setCell ⟨B,9,none⟩ (.int .i64 m)):=by
  refine⟨by simp[World.setCell],fun _ _=>rfl,fun g hg hb hT=>?_⟩
  exact bhs w ⟨B,9,none⟩ _ g (fun e=>hT (by rw[e];exact h.oB))
 refine⟨⟨?_,h.hB,h.oB,h.z0,fun j hj=>(zd4 (h.rows j hj) (h.tags j hj) hst (by simp)).1,h.tags⟩,hst⟩
 rw[zkc h.blk]
 rfl
end
section
def Apart (w:World) (v:Value) (w1:World) (v':Value):Prop:=v'.ownBlock=v.ownBlock\/ ∀k,k<w.heap.size->w1.heap[k]?=w.heap[k]?
variable {P:Program}
theorem run_push_kept (w:World)(t ty:TypeId)(base:Nat)(e:TypeId)(i:TypeInfo)(z:Value)(size bytes:Nat)(ht:P.underlying t=some (.slice e))(hi:P.info? e=some i)(hz:i.zero=some z)
  (hsize:i.size=size)(hby:i.bytes=bytes)(hzs:z.cells.size=size)(hsz:0<size)
  (v:Value)(n:Nat)(xs:List Value)(hown:w.ownsRow base e size v n xs)
  (ad:Addr)(c:Nat)(news:List Value)(hl:news.length=1 * size)(hnews: ∀j u,news[j]?=some u->w.cell? (ad.add j)=some u)(h1: ∀u∈news,u.oneCell'=true)
  (h63:n+1<=maxLen)(hbytes:(n+1) * bytes<=140737488355328)(hbase:base<=w.heap.size)(H:Nat)(hH:w.heap.size=H):
  ∃g cap w',(Builtin.append_ #[t,t] ty #[v,.slice (some ad) 1 c]).run P w= .ok (.slice (some ⟨g,0,none⟩) (n+1) cap) w'/\
   w'.ownsRow base e size (.slice (some ⟨g,0,none⟩) (n+1) cap) (n+1) (xs++news)/\w.grownBy w' v.ownBlock/\(v.ownBlock=some g\/g=H)/\Apart w v w' (.slice (some ⟨g,0,none⟩) (n+1) cap):=by
 obtain ⟨g,cap,w',hr,h2,h3,h4,h5⟩:=run_append_lies (P:=P) w t ty base e i z size bytes ht hi hz hsize hby hzs hsz v n xs hown ad 1 c news hl hnews h1 (by decide) h63 hbytes hbase H hH
 refine⟨g,cap,w',hr,h2,h3,h4,?_⟩
 have hsmall:n+1<=9223372036854775807:=by simp only[maxLen] at h63;omega
 subst hsize
 subst hby
 rcases hown.2 with ⟨rfl,rfl⟩|⟨g',cap',cur,rfl,hbg,hg,hnc,hcm,hcs,htake⟩
 .right
  have hq:=run_append_nil (P:=P) w t ty e i z ht hi hz ad 1 c news hl hnews (by decide) (by decide) (by have hb:=hbytes;simp only[Nat.zero_add] at hb;omega)
  rw[hr] at hq
  simp only[Result.ok.injEq] at hq
  rw[hq.2]
  exact fun k hk=>Below.heap_alloc w.drew _ k hk
 .by_cases hroom:n+1<=cap'
  .left
   have hfit:n * i.size+news.length<=cur.size:=by rw[hl,hcs,←Nat.add_mul];exact Nat.mul_le_mul_right _ hroom
   have hq:=run_append_room (P:=P) w t ty e i ht hi g' n cap' cur hg ad 1 c news hl hnews h1 hroom hfit
   rw[hr] at hq
   simp only[Result.ok.injEq] at hq
   rw[hq.1]
   rfl
  .right
   have holds: ∀j u,xs[j]?=some u->w.cell? ((⟨g',0,none⟩:Addr).add j)=some u:=hown.cells (g:=g') rfl
   have hq:=run_append_grow (P:=P) w t ty e i z ht hi hz ⟨g',0,none⟩ n cap' xs hown.1 holds ad 1 c news hl hnews (by omega) (by omega) (growslice_fits (by omega) hbytes)
   rw[hr] at hq
   simp only[Result.ok.injEq] at hq
   rw[hq.2]
   exact fun k hk=>Below.heap_alloc w.drew _ k hk
variable {v v' x:Value} {W w w' w1:World}
theorem Apart.alloc {o:Obj}(h:Apart (w.alloc o) v w1 v'):Apart w v w1 v':=by
 rcases h with h|h
 .exact .inl h
 .exact .inr fun k hk=>(h k (by simp;omega)).trans (Below.heap_alloc _ _ _ hk)
variable {a:Act} {ops:Array Oper} {arr:Array Value} {Q:Exit->Act->World->Prop} {rest:List Oper} {o:Oper} {e:TypeId}
theorem push_kept
  (B size bytes n:Nat)(v:Value)(xs:List Value)(z:Value)(hown:W.ownsRow B e size v n xs)(hB:B<=W.heap.size)
  (hinfo:(P.info? e).map (fun i=>(i.zero,i.size,i.bytes))=some (some z,size,bytes))(hzs:z.cells.size=size)(hsz:0<size)(harr:arr.size=size)
  (h1: ∀u∈arr.toList,u.oneCell'=true)(hn:n+1<=1073741824)(hby:bytes<=256)
  (s y:Operand)(t:TypeId)(ht:P.underlying t=some (.slice e))(hgd:o.guard=none)(ho:o.op= .call {callee:= .builtin .append,args:= #[s,y],argTypes:= #[t,t]})
  (hs:a.eval s=v)(hy:a.eval y= .slice (some ⟨W.heap.size,0,none⟩) 1 1)
  (h: ∀v' w',Grew B e size W v w' v' (n+1) (xs++arr.toList)->Apart W v w' v'->wpList P ops Q rest (a.put o.dst v') w'):
  wpList P ops Q (o::rest) a (W.alloc (.cells arr e)):=by
 obtain ⟨i0,hi,hz0,hz1,hz2⟩:=info_parts hinfo
 refine wpList_plain hgd fun K hK=>?_
 obtain ⟨g,cap,w1,hr,h2,h3,h4,h5⟩:=run_push_kept (P:=P) (W.alloc (.cells arr e)) t o.type B e i0 z size bytes ht hi hz0 hz1 hz2 hzs hsz v n xs (hown.alloc _) ⟨W.heap.size,0,none⟩ 1 arr.toList (by simp[harr])
  (World.news_of_block (heap_alloc_new W _)) h1 (by unfold maxLen;omega) (llt (Nat.mul_le_mul hn hby) (by decide)) (by simp;omega) (W.heap.size+1) (by simp)
 unfold Oper.wp execOp
 simp only[ho,resolve,invoke,builtin,Sem.run_bind,Sem.run_pure,Result.andThen_ok,List.map_toArray,List.map_cons,List.map_nil,hs,hy,hr]
 exact hK _ _ (h _ _ (Grew.of_lies _ h2 h3 h4) h5.alloc)
theorem zi3
  (H:Nat)(hH:W.heap.size=H)(B size bytes n:Nat)(v:Value)(xs:List Value)(z:Value)(hown:W.ownsRow B e size v n xs)(hB:B<=W.heap.size)
  (hinfo:(P.info? e).map (fun i=>(i.zero,i.size,i.bytes))=some (some z,size,bytes))(hzs:z.cells.size=size)(hsz:0<size)(harr:arr.size=size)
  (h1: ∀u∈arr.toList,u.oneCell'=true)(hn:n+1<=1073741824)(hby:bytes<=256)
  (s y:Operand)(t:TypeId)(ht:P.underlying t=some (.slice e))(hgd:o.guard=none)(ho:o.op= .call {callee:= .builtin .append,args:= #[s,y],argTypes:= #[t,t]})
  (hs:a.eval s=v)(hy:a.eval y= .slice (some ⟨H,0,none⟩) 1 1)
  (h: ∀v' w',Grew B e size W v w' v' (n+1) (xs++arr.toList)->Apart W v w' v'->wpList P ops Q rest (a.put o.dst v') w'):
  wpList P ops Q (o::rest) a (W.alloc (.cells arr e)):=by
 subst hH
 exact push_kept B size bytes n v xs z hown hB hinfo hzs hsz harr h1 hn hby s y t ht hgd ho hs hy h
variable {B Z base many n size:Nat}
theorem zcs {xs:List Value}(h:w.ownsRow base e size v n xs)(g k:Nat)(x:Value)(hg:v.ownBlock=some g):
  (w.setCell ⟨g,k,none⟩ x).ownsRow base e size v n (xs.set k x):=by
 refine⟨by rw[List.length_set];exact h.1,?_⟩
 rcases h.2 with ⟨rfl,_⟩|⟨g',cap,cur,rfl,hb,hgg,r1,r2,r3,r4⟩
 .simp[Value.ownBlock] at hg
 .simp[Value.ownBlock] at hg
  subst hg
  refine .inr ⟨g',cap,cur.setIfInBounds k x,rfl,hb,zkc hgg,r1,r2,by simpa using r3,?_⟩
  rw[Array.toList_setIfInBounds,←r4,List.take_set]
theorem zan {xs:List Value}(h:w.ownsRow base e size v n xs)(i:Nat)(u:Value)(hu:xs[i]?=some u):
  ∃g cap,v= .slice (some ⟨g,0,none⟩) n cap/\base<=g/\g<w.heap.size/\n<=cap/\w.cell? ⟨g,i,none⟩=some u/\w.frozen? ⟨g,i,none⟩=false:=by
 rcases h.2 with ⟨_,h0⟩|⟨g,cap,cur,hv,hb,hg,hnc,_,_,htake⟩
 .have:=h.1
  rw[h0] at this
  have:xs=[]:=List.eq_nil_of_length_eq_zero (by simpa using this)
  rw[this] at hu
  simp at hu
 .refine⟨g,cap,hv,hb,(gsi.1 hg).1,hnc,?_,?_⟩
  .rw[cell_of_row w g i cur e (0,0) hg]
   rw[←htake,List.getElem?_take] at hu
   split at hu
   .simpa using hu
   .cases hu
  .simp[World.frozen?,hg]
theorem zaj.set {own:Nat->Nat×Int}{g k:Nat}:zaj base own (fun t=>t≠own g) w own (w.setCell ⟨g,k,none⟩ x):=
 ⟨by simp[World.setCell],fun _ _=>rfl,fun q _ _ hT=>bhs w ⟨g,k,none⟩ x q (fun e=>hT (by rw[e]))⟩
def told (φ:Nat->Value) (n:Nat):List Value:=(List.range n).map φ
theorem za4 (φ:Nat->Value)(n:Nat):(told φ n).length=n:=by simp[told]
theorem zdb (φ:Nat->Value)(n i:Nat)(h:i<n):(told φ n)[i]?=some (φ i):=by simp[told,h]
variable {f φ:Nat->Value}
theorem zfk {xs:List Value}(hl:xs.length=n)(h: ∀i,i<n->xs[i]?=some (φ i)):xs=told φ n:=by
 refine List.ext_getElem? fun i=>?_
 by_cases hi:i<n
 .rw[h i hi,zdb φ n i hi]
 .rw[List.getElem?_eq_none (by omega),List.getElem?_eq_none (by rw[za4];omega)]
def EntN (base:Nat) (own:Nat->Nat×Int) (tag:Nat×Int) (w:World) (e:TypeId) (size:Nat) (φ:Nat->Value) (N:Nat) (v:Value):Prop:=
 Ent base own tag w e size v φ/\ ∃a n c,v= .slice a n c/\n<=N
variable {tag:Nat×Int}
theorem EntN.own {own:Nat->Nat×Int}
  (h:w.ownsRow base e size v n (told φ (n * size)))(ht: ∀g,v.ownBlock=some g->own g=tag)(hn:n<=67108864):EntN base own tag w e size φ n v:=by
 rcases h.2 with ⟨rfl,rfl⟩|⟨g,cap,cur,rfl,hb,hg,r1,r2,r3,r4⟩
 .exact⟨⟨none,0,0,rfl,by omega,.inl rfl⟩,none,0,0,rfl,nr⟩
 .refine⟨⟨_,n,cap,rfl,hn,.inr ⟨g,cur,rfl,hb,ht g rfl,hg,by rw[r3];exact Nat.mul_le_mul_right _ r1,fun k hk=>?_⟩⟩,_,n,cap,rfl,nr⟩
  have hq:=zdb φ (n * size) k hk
  rw[←r4,List.getElem?_take,if_pos hk] at hq
  simpa using hq
theorem EntN.push {own:Nat->Nat×Int}{l l':Value}(h:EntN base own tag w e size φ n v)
  (hG:Grew base e size w l w1 l' (n+1) (told φ ((n+1) * size)))(hA:Apart w l w1 l'):EntN base (za9 own w l' tag) tag w1 e size φ (n+1) v:=by
 obtain ⟨⟨a,m,c,rfl,h2,h3⟩,a',m',c',h4,h5⟩:=h
 simp only[Value.slice.injEq] at h4
 obtain ⟨rfl,rfl,rfl⟩:=h4
 refine⟨⟨a,m,c,rfl,h2,?_⟩,a,m,c,rfl,by omega⟩
 rcases h3 with h3|⟨g,cur,q1,q2,q3,q4,q5,q6⟩
 .exact .inl h3
 .have hlt:=zak q4
  have keep:w1.heap[g]?=w.heap[g]?->m=0\/ ∃(g:Nat) (cur:Array Value),a=some ⟨g,0,none⟩/\base<=g/\za9 own w l' tag g=tag/\w1.heap[g]?=some (.cells cur e (0,0))/\m * size<=cur.size/\ ∀k,k<m * size->cur[k]?=some (φ k):=
   fun hk=> .inr ⟨g,cur,q1,q2,by rw[zb0 hlt];exact q3,by rw[hk];exact q4,q5,q6⟩
  rcases hA with hA|hA
  .by_cases hgl:some g=l.ownBlock
   .rw[←hA] at hgl
    rcases hG.own.2 with ⟨_,r0⟩|⟨g',cap',cur',rfl,_,r2,r3,_,r5,r6⟩
    .omega
    .simp only[Value.ownBlock,Option.some.injEq] at hgl
     subst hgl
     refine .inr ⟨g,cur',q1,q2,by rw[zb0 hlt];exact q3,r2,?_,fun k hk=>?_⟩
     .rw[r5]
      exact Nat.mul_le_mul_right _ (by omega)
     .have hk':k<(n+1) * size:=lll hk (Nat.mul_le_mul_right _ (by omega))
      have hq:=zdb φ ((n+1) * size) k hk'
      rw[←r6,List.getElem?_take,if_pos hk'] at hq
      simpa using hq
   .exact keep (hG.grown.block g hlt hgl)
  .exact keep (hA g hlt)
variable {T:Nat×Int->Prop} {own':Nat->Nat×Int}
theorem EntN.stays {own:Nat->Nat×Int}{N:Nat}(h:EntN base own tag w e size φ N v)(hs:zaj base own T w own' w')(hT:T tag):EntN base own' tag w' e size φ N v:=
 ⟨h.1.stays hs hT,h.2⟩
theorem zaq {own:Nat->Nat×Int}{xs:List Value}(h:w.ownsRow base e size v n xs)(ht: ∀g,v.ownBlock=some g->own g=tag)(hs:zaj base own T w own' w')(hT:T tag):
  w'.ownsRow base e size v n xs/\ ∀g,v.ownBlock=some g->own' g=tag:=by
 have hl:=h.lt
 refine⟨⟨h.1,?_⟩,fun g hg=>by rw[hs.tag g (hl g hg).2];exact ht g hg⟩
 rcases h.2 with h2|⟨g,cap,cur,rfl,hb,hg,r⟩
 .exact .inl h2
 .refine .inr ⟨g,cap,cur,rfl,hb,?_,r⟩
  rw[hs.blk g (zak hg) hb (by rw[ht g rfl];exact hT)]
  exact hg
theorem adopt {own:Nat->Nat×Int}{t:Nat×Int}{xs:List Value}(hb:Below w.heap.size w w')(hv:w'.ownsRow w.heap.size e size v n xs)(hbase:base<=w.heap.size):
  zaj base own (fun _=>True) w (za9 own w v t) w'/\w'.ownsRow base e size v n xs/\ ∀g,v.ownBlock=some g->za9 own w v t g=t:=
 ⟨⟨hb.size,fun _ hg=>zb0 hg,fun g hg _ _=>hb.block g hg⟩,own_base hv hbase,fun g hg=>by unfold za9;rw[if_pos ⟨(hv.lt g hg).1,hg⟩]⟩
def EB (base:Nat) (own:Nat->Nat×Int) (w:World) (vs:List Value) (ms:List Nat) (many:Nat):Prop:=
 ∀(i:Nat) (v:Value) (m:Nat),vs[i]?=some v->ms[i]?=some m->Ent base own (2,m) w 5 1 v (fun _=> .int .u8 (dg m 0:Nat))/\m<=many
def EE (base:Nat) (own:Nat->Nat×Int) (w:World) (vs:List Value) (em:List Int) (last:Int):Prop:=
 ∀(i:Nat) (v:Value) (m:Int),vs[i]?=some v->em[i]?=some m->Ent base own (3,m) w 42 10 v (fun k=> .int .i64 (kev m (k%10)))/\last<=m
def EO (base:Nat) (own:Nat->Nat×Int) (w:World) (vs us:List Value) (last:Int):Prop:=
 ∀(i:Nat) (v u:Value),vs[i]?=some v->us[i]?=some u-> ∃m:Int,u= .int .i64 m/\Ent base own (8,m) w 89 6 v (fun k=>kod m (k%6))/\last<=m
def EI (base:Nat) (own:Nat->Nat×Int) (w:World) (vs:List Value):Prop:=
 ∀(i:Nat) (v:Value),vs[i]?=some v->Ent base own (4,i) w 5 1 v (fun _=> .int .u8 (77:Nat))
def EL (base:Nat) (own:Nat->Nat×Int) (w:World) (vs:List Value):Prop:=
 ∀(i:Nat) (v:Value),vs[i]?=some v->Ent base own (5,i) w 42 10 v (fun k=> .int .i64 (kev (-7) (k%10)))
structure WK (Z base B:Nat) (own:Nat->Nat×Int) (w:World) (f:Nat->Value) (xs:Nat->List Value) (ms:List Nat) (em:List Int) (last:Int) (many:Nat):Prop where
 wj:WJ base B own w f xs last many
 x2:xs 2=ms.map fun m=> .int .i64 (m:Nat)
 x6:xs 6=em.map fun m=> .int .i64 m
 l2:ms.length=(xs 1).length
 l6:em.length=(xs 5).length
 lb:EB base own w (xs 1) ms many
 le:EE base own w (xs 5) em last
 l4:(xs 4).length=(xs 3).length
 lo:EO base own w (xs 3) (xs 4) last
 li:EI base own w (xs 7)
 ll:EL base own w (xs 8)
 nn:(xs 1).length<=4 * Z/\(xs 5).length<=4 * Z/\(xs 7).length<=Z/\(xs 8).length<=Z/\many<=Z/\ -(Z:Int)<=last/\last<=0/\(xs 3).length<=4 * Z
 hZ:Z<=1048577
variable {last:Int} {em:List Int} {ms:List Nat} {xs:Nat->List Value}
theorem WK.stays {own:Nat->Nat×Int}
  (h:WK Z base B own w f xs ms em last many)(hs:zaj base own T w own' w')(h0:T (0,0))(h1: ∀j:Nat,zb2 j->T (1,(j:Int)))(h2: ∀m:Nat,m<=many->T (2,m))(h3: ∀m,last<=m->T (3,m))(h4: ∀i:Nat,i<(xs 7).length->T (4,i))(h5: ∀i:Nat,i<(xs 8).length->T (5,i))(h8: ∀m,last<=m->T (8,m)):
  WK Z base B own' w' f xs ms em last many:=by
 refine⟨h.wj.stays hs h0 h1,h.x2,h.x6,h.l2,h.l6,?_,?_,h.l4,?_,?_,?_,h.nn,h.hZ⟩
 .intro i v m q1 q2
  obtain ⟨q3,q4⟩:=h.lb i v m q1 q2
  exact⟨q3.stays hs (h2 m q4),q4⟩
 .intro i v m q1 q2
  obtain ⟨q3,q4⟩:=h.le i v m q1 q2
  exact⟨q3.stays hs (h3 m q4),q4⟩
 .intro i v u q1 q2
  obtain ⟨m,q3,q4,q5⟩:=h.lo i v u q1 q2
  exact⟨m,q3,q4.stays hs (h8 m q5),q5⟩
 .intro i v q1
  exact(h.li i v q1).stays hs (h4 i (by obtain ⟨q,_⟩:=List.getElem?_eq_some_iff.1 q1;exact q))
 .intro i v q1
  exact(h.ll i v q1).stays hs (h5 i (by obtain ⟨q,_⟩:=List.getElem?_eq_some_iff.1 q1;exact q))
theorem WK.all {own:Nat->Nat×Int}
  (h:WK Z base B own w f xs ms em last many)(hs:zaj base own (fun _=>True) w own' w'):WK Z base B own' w' f xs ms em last many:=
 h.stays hs trivial (fun _ _=>trivial) (fun _ _=>trivial) (fun _ _=>trivial) (fun _ _=>trivial) (fun _ _=>trivial) (fun _ _=>trivial)
theorem WK.ext {own:Nat->Nat×Int}
  (h:WK Z base B own w f xs ms em last many)(hb:Below w.heap.size w w'):WK Z base B own w' f xs ms em last many:=h.all (zaj.of_below hb)
def markOf:Value->Int
 | .int _ m=>m
 |_=>0
variable {us vs:List Value}
theorem EO.marks {own:Nat->Nat×Int}(h:EO base own w vs us last)(hl:us.length=vs.length):us=(us.map markOf).map fun m=> .int .i64 m:=by
 rw[List.map_map]
 symm
 rw[List.map_congr_left (g:=id)]
 .simp
 .intro u hu
  obtain ⟨i,hi,rfl⟩:=List.getElem_of_mem hu
  obtain ⟨m,hm,_⟩:=h i _ _ (List.getElem?_eq_getElem (by omega)) (List.getElem?_eq_getElem hi)
  rw[hm]
  rfl
theorem WK.wi {own:Nat->Nat×Int}
  (h:WK Z base B own w f xs ms em last many):WI base B own w f (xs 1) ms (xs 5) em (xs 7) (xs 8) (xs 3) ((xs 4).map markOf) last many:=by
 have hr:=h.wj.rows
 have ht:=h.wj.tags
 obtain ⟨n1,n2,n3,n4,n5,n6,n7,n8⟩:=h.nn
 have hZ:=h.hZ
 have hl2:=h.l2
 have hl6:=h.l6
 have hl4:=h.l4
 have hmk:=h.lo.marks hl4
 refine⟨h.wj.blk,h.wj.hB,h.wj.oB,hr 3 (by simp[zb2]),ht 3 (by simp[zb2]),?_,ht 4 (by simp[zb2]),hr 1 (by simp[zb2]),ht 1 (by simp[zb2]),?_,ht 2 (by simp[zb2]),hr 5 (by simp[zb2]),ht 5 (by simp[zb2]),?_,ht 6 (by simp[zb2]),hr 7 (by simp[zb2]),ht 7 (by simp[zb2]),hr 8 (by simp[zb2]),ht 8 (by simp[zb2]),h.lb,?_,fun i v m q1 q2=>(h.le i v m q1 q2).1,h.li,h.ll,⟨by omega,by omega,by omega,by omega,by omega,by omega,by omega,by omega,by simp;omega⟩⟩
 .have:=hr 4 (by simp[zb2])
  rw[List.length_map,←hmk]
  exact this
 .have:=hr 2 (by simp[zb2])
  rw[h.x2,List.length_map] at this
  exact this
 .have:=hr 6 (by simp[zb2])
  rw[h.x6,List.length_map] at this
  exact this
 .intro i v m q1 q2
  rw[List.getElem?_map] at q2
  cases hu:(xs 4)[i]? with
  |none=>rw[hu] at q2;simp at q2
  |some u=>
   rw[hu] at q2
   obtain ⟨m',q3,q4,_⟩:=h.lo i v u q1 hu
   simp only[Option.map_some,Option.some.injEq,q3,markOf] at q2
   rw[←q2]
   exact q4
theorem zku {own:Nat->Nat×Int}{R:EW}
  (h:WK Z base B own w f xs ms em last many)(hR: ∀w',Below w.heap.size w w'->R (.returned (.bool true)) w'):Calls Tryz.prog 14 #[.pointer (some ⟨B,0,none⟩)] w R:=by
 obtain ⟨ab,ao,ae,am,ai,al,aq,ak,cb,co,ce,cm,ci,cl,cq,ck,hh⟩:=h.wi.held h.l2 h.l6 (by rw[List.length_map];exact h.l4)
 exact kept_any hh _ hR
theorem EB.stays {own:Nat->Nat×Int}(h:EB base own w vs ms many)(hs:zaj base own T w own' w')(hT: ∀m:Nat,m<=many->T (2,m)):EB base own' w' vs ms many:=
 fun i v m q1 q2=>⟨(h i v m q1 q2).1.stays hs (hT m (h i v m q1 q2).2),(h i v m q1 q2).2⟩
theorem EE.stays {own:Nat->Nat×Int}(h:EE base own w vs em last)(hs:zaj base own T w own' w')(hT: ∀m:Int,last<=m->T (3,m)):EE base own' w' vs em last:=
 fun i v m q1 q2=>⟨(h i v m q1 q2).1.stays hs (hT m (h i v m q1 q2).2),(h i v m q1 q2).2⟩
theorem EO.stays {own:Nat->Nat×Int}(h:EO base own w vs us last)(hs:zaj base own T w own' w')(hT: ∀m:Int,last<=m->T (8,m)):EO base own' w' vs us last:=
 fun i v u q1 q2=>by
  obtain ⟨m,q3,q4,q5⟩:=h i v u q1 q2
  exact⟨m,q3,q4.stays hs (hT m q5),q5⟩
theorem EI.stays {own:Nat->Nat×Int}(h:EI base own w vs)(hs:zaj base own T w own' w')(hT: ∀i:Nat,i<vs.length->T (4,i)):EI base own' w' vs:=
 fun i v q1=>(h i v q1).stays hs (hT i (by obtain ⟨q,_⟩:=List.getElem?_eq_some_iff.1 q1;exact q))
theorem EL.stays {own:Nat->Nat×Int}(h:EL base own w vs)(hs:zaj base own T w own' w')(hT: ∀i:Nat,i<vs.length->T (5,i)):EL base own' w' vs:=
 fun i v q1=>(h i v q1).stays hs (hT i (by obtain ⟨q,_⟩:=List.getElem?_eq_some_iff.1 q1;exact q))
theorem WK.push7 {own:Nat->Nat×Int}
  (h:WK Z base B own w f xs ms em last many)(h7:(xs 7).length+1<=Z)(hG:Grew base (ty 7) 1 w (f 7) w1 v' ((xs 7).length+1) (xs 7++[x]))(hx:Ent base own (4,((xs 7).length:Int)) w 5 1 x (fun _=> .int .u8 (77:Nat))):
  WK Z base B (za9 own w v' (1,7)) (w1.setCell ⟨B,7,none⟩ v') (fun i=>if i=7 then v' else f i) (fun i=>if i=7 then xs 7++[x] else xs i) ms em last many/\
  zaj base own (fun t=>t≠(1,7)/\t≠(0,0)) w (za9 own w v' (1,7)) (w1.setCell ⟨B,7,none⟩ v'):=by
 obtain ⟨hj,hs⟩:=h.wj.push 7 (by simp[zb2]) hG
 refine⟨⟨hj,by simpa using h.x2,by simpa using h.x6,by simpa using h.l2,by simpa using h.l6,?_,?_,by simpa using h.l4,?_,?_,?_,?_,h.hZ⟩,hs⟩
 .simpa using h.lb.stays hs (by simp)
 .simpa using h.le.stays hs (by simp)
 .simpa using h.lo.stays hs (by simp)
 .intro i v q
  simp only[if_true] at q
  by_cases hi:i<(xs 7).length
  .rw[List.getElem?_append_left hi] at q
   exact(h.li i v q).stays hs (by simp)
  .rw[List.getElem?_append_right (by omega)] at q
   obtain ⟨q1,q2⟩:=List.getElem?_eq_some_iff.1 q
   simp only[List.length_cons,List.length_nil] at q1
   have hi':i=(xs 7).length:=by omega
   subst hi'
   simp only[Nat.sub_self,List.getElem_cons_zero] at q2
   subst q2
   exact hx.stays hs (by simp)
 .simpa using h.ll.stays hs (by simp)
 .have:=h.nn
  simpa using ⟨this.1,this.2.1,h7,this.2.2.2⟩
theorem WK.push8 {own:Nat->Nat×Int}
  (h:WK Z base B own w f xs ms em last many)(h7:(xs 8).length+1<=Z)(hG:Grew base (ty 8) 1 w (f 8) w1 v' ((xs 8).length+1) (xs 8++[x]))(hx:Ent base own (5,((xs 8).length:Int)) w 42 10 x (fun k=> .int .i64 (kev (-7) (k%10)))):
  WK Z base B (za9 own w v' (1,8)) (w1.setCell ⟨B,8,none⟩ v') (fun i=>if i=8 then v' else f i) (fun i=>if i=8 then xs 8++[x] else xs i) ms em last many/\
  zaj base own (fun t=>t≠(1,8)/\t≠(0,0)) w (za9 own w v' (1,8)) (w1.setCell ⟨B,8,none⟩ v'):=by
 obtain ⟨hj,hs⟩:=h.wj.push 8 (by simp[zb2]) hG
 refine⟨⟨hj,by simpa using h.x2,by simpa using h.x6,by simpa using h.l2,by simpa using h.l6,?_,?_,by simpa using h.l4,?_,?_,?_,?_,h.hZ⟩,hs⟩
 .simpa using h.lb.stays hs (by simp)
 .simpa using h.le.stays hs (by simp)
 .simpa using h.lo.stays hs (by simp)
 .simpa using h.li.stays hs (by simp)
 .intro i v q
  simp only[if_true] at q
  by_cases hi:i<(xs 8).length
  .rw[List.getElem?_append_left hi] at q
   exact(h.ll i v q).stays hs (by simp)
  .rw[List.getElem?_append_right (by omega)] at q
   obtain ⟨q1,q2⟩:=List.getElem?_eq_some_iff.1 q
   simp only[List.length_cons,List.length_nil] at q1
   have hi':i=(xs 8).length:=by omega
   subst hi'
   simp only[Nat.sub_self,List.getElem_cons_zero] at q2
   subst q2
   exact hx.stays hs (by simp)
 .have:=h.nn
  simpa using ⟨this.1,this.2.1,this.2.2.1,h7,this.2.2.2.2⟩
theorem WJ.grew {own:Nat->Nat×Int}
  (h:WJ base B own w f xs last many)(j:Nat)(hj:zb2 j)(hG:Grew base (ty j) 1 w (f j) w1 v' ((xs j).length+1) (xs j++[x])):
  (∀i,w1.cell? ⟨B,i,none⟩=w.cell? ⟨B,i,none⟩)/\(∀i,w1.frozen? ⟨B,i,none⟩=false)/\Below base w (w1.setCell ⟨B,j,none⟩ v'):=by
 obtain ⟨hst,_⟩:=hG.stays (h.tags j hj)
 have hB2:w1.heap[B]?=w.heap[B]?:=hst.blk B (zak h.blk) h.hB (by rw[h.oB];simp)
 refine⟨fun i=>World.cell?_of_block (w:=w) (w':=w1) (a:=⟨B,i,none⟩) hB2,fun i=>(World.frozen?_of_block (w:=w) (w':=w1) (a:=⟨B,i,none⟩) hB2).trans (h.free i),?_⟩
 refine Below.setCell (hG.below (by have:=zak h.blk;have:=h.hB;omega) fun g hg=>((h.rows j hj).lt g hg).1) h.hB _
end
section
variable {P:Program}
theorem run_copy_told (w:World)(dT sT ty elem e:TypeId)(size:Nat)(hu:P.underlying dT=some (.slice elem))(hz:(P.info? elem).map (·.size)=some size)
  (base g n cap:Nat)(xs:List Value)(hown:w.ownsRow base e size (.slice (some ⟨g,0,none⟩) n cap) n xs)(sp:Option Addr)(N c:Nat)(hN:N<=n)(ψ:Nat->Value)
  (hsrc: ∀k,k<N * size-> ∃b o,sp=some ⟨b,o,none⟩/\w.cell? ⟨b,o+k,none⟩=some (ψ k))(hrest: ∀k,N * size<=k->k<n * size->xs[k]?=some (ψ k))(h1: ∀k,(ψ k).oneCell'=true):
  ∃w',(Builtin.copy_ #[dT,sT] ty #[.slice (some ⟨g,0,none⟩) n cap,.slice sp N c]).run P w= .ok (goInt N) w'/\w.grownBy w' (some g)/\w'.heap.size=w.heap.size/\w'.ownsRow base e size (.slice (some ⟨g,0,none⟩) n cap) n (told ψ (n * size)):=by
 rcases hown.2 with ⟨h0,_⟩|⟨g',cap',cur,hv,hbg,hg,hnc,hcm,hcs,htake⟩
 .simp at h0
 .simp only[Value.slice.injEq,Option.some.injEq,Addr.mk.injEq,true_and,and_true] at hv
  obtain ⟨rfl,rfl⟩:=hv
  have hle:N * size<=n * size:=Nat.mul_le_mul_right _ hN
  have hfit:0+(told ψ (N * size)).length<=cur.size:=by
   rw[za4,hcs,Nat.zero_add]
   exact Nat.mul_le_mul_right _ (llt hN hnc)
  have hst:=run_storeCells_at P g 0 e (told ψ (N * size)) 0 cur w hg (by simpa using hfit) (by
   intro v hv
   simp only[told,List.mem_map] at hv
   obtain ⟨k,_,rfl⟩:=hv
   exact h1 k)
  have hmin:Nat.min N n=N:=Nat.min_eq_left hN
  have hf:(Builtin.firstCells size N (.slice sp N c)).run P w= .ok (told ψ (N * size)).toArray w:=by
   by_cases h0:N * size=0
   .cases sp with
    |none=>simp[run_firstCells_none,told,h0]
    |some ad=>
     have:=run_firstCells_some (P:=P) w size N ad N c [] (by simp[h0]) (by simp)
     rw[this]
     simp[told,h0]
   .obtain ⟨b,o,rfl,_⟩:=hsrc 0 (by omega)
    refine run_firstCells_some w size N ⟨b,o,none⟩ N c _ (za4 _ _) fun j v hj=>?_
    have hjl:j<N * size:=by
     obtain ⟨q,_⟩:=List.getElem?_eq_some_iff.1 hj
     rwa[za4] at q
    rw[zdb ψ _ j hjl] at hj
    obtain ⟨b',o',hb,hc⟩:=hsrc j hjl
    simp only[Option.some.injEq,Addr.mk.injEq,and_true] at hb
    obtain ⟨rfl,rfl⟩:=hb
    rw[show (⟨b,o,none⟩:Addr).add j=⟨b,o+j,none⟩ by unfold Addr.add;split<;>simp_all,hc]
    exact hj
  cases hq:P.info? elem with
  |none=>simp[hq] at hz
  |some i=>
   have hi:i.size=size:=by simpa [hq] using hz
   refine⟨w.setRow g (cur.toList.take 0++told ψ (N * size)++cur.toList.drop (0+(told ψ (N * size)).length)).toArray,?_,⟨rfl,rfl,rfl,by simp[World.setRow],fun k _ hk=>setRow_other w g k _ (fun e=>hk (by rw[e]))⟩,by simp[World.setRow],za4 _ _,.inr ⟨g,cap,_,rfl,hbg,setRow_heap w g cur _ e _ hg,hnc,hcm,?_,?_⟩⟩
   .simp only[Nat.add_zero,Nat.zero_add] at hst
    simp[Builtin.copy_,run_underlying hu,Builtin.lenOf,sizeOf,typeInfo,hq,hi,hmin,hf,hst]
   .simp only[List.size_toArray,List.length_append,List.length_take,List.length_drop,Array.length_toList]
    omega
   .refine zfk ?_ ?_
    .simp only[List.take_zero,List.nil_append,List.length_take,List.length_append,List.length_drop,Array.length_toList]
     have:n * size<=cur.size:=by rw[hcs];exact Nat.mul_le_mul_right _ hnc
     omega
    .intro k hk
     simp only[List.take_zero,List.nil_append,List.getElem?_take,if_pos hk]
     by_cases hkN:k<N * size
     .rw[List.getElem?_append_left (by rw[za4];exact hkN),zdb _ _ _ hkN]
     .rw[List.getElem?_append_right (by rw[za4];omega),za4,List.getElem?_drop,←hrest k (by omega) hk,←htake,List.getElem?_take,if_pos hk]
      congr 1
      omega
theorem zf1 {W:World}{ops:Array Oper}{rest:List Oper}{o:Oper}{a:Act}{Q:Exit->Act->World->Prop}(hgd:o.guard=none)(d s:Operand)(dT sT:TypeId)
  (ho:o.op= .call {callee:= .builtin .copy,args:= #[d,s],argTypes:= #[dT,sT]})(elem e:TypeId)(size:Nat)(hu:P.underlying dT=some (.slice elem))(hz:(P.info? elem).map (·.size)=some size)
  (base g n cap:Nat)(xs:List Value)(hown:W.ownsRow base e size (.slice (some ⟨g,0,none⟩) n cap) n xs)(sp:Option Addr)(N c:Nat)(hN:N<=n)(ψ:Nat->Value)
  (hd:a.eval d= .slice (some ⟨g,0,none⟩) n cap)(hs:a.eval s= .slice sp N c)
  (hsrc: ∀k,k<N * size-> ∃b o,sp=some ⟨b,o,none⟩/\W.cell? ⟨b,o+k,none⟩=some (ψ k))(hrest: ∀k,N * size<=k->k<n * size->xs[k]?=some (ψ k))(h1: ∀k,(ψ k).oneCell'=true)
  (h: ∀w',W.grownBy w' (some g)->w'.heap.size=W.heap.size->w'.ownsRow base e size (.slice (some ⟨g,0,none⟩) n cap) n (told ψ (n * size))->wpList P ops Q rest (a.put o.dst (goInt N)) w'):
  wpList P ops Q (o::rest) a W:=by
 refine wpList_plain hgd fun K hK=>?_
 obtain ⟨w',hr,h2,h3,h4⟩:=run_copy_told (P:=P) W dT sT o.type elem e size hu hz base g n cap xs hown sp N c hN ψ hsrc hrest h1
 unfold Oper.wp execOp
 simp only[ho,resolve,invoke,builtin,Sem.run_bind,Sem.run_pure,Result.andThen_ok,List.map_toArray,List.map_cons,List.map_nil,hd,hs,hr]
 exact hK _ _ (h w' h2 h3 h4)
end
section
theorem made_one (z:Value)(n k:Nat)(h:k<n):(madeCells #[z] n).toList[k]?=some z:=by
 rw[toList_madeCells_one]
 simp[h]
def zg7 (X:Nat->Int) (N:Nat) (k:Nat):Value:= .int .u8 (if k<N then X k else 0)
theorem lent_any (a:Option Addr)(N c:Nat)(X:Nat->Int)(w:World)(R:EW)(hN:N<=1048576)(hx:BsAt w a N X)
  (hR: ∀g w',Below w.heap.size w w'->w'.ownsRow w.heap.size 5 1 (.slice (some ⟨g,0,none⟩) (N+1) (N+1)) (N+1) (told (zg7 X N) (N+1))->R (.returned (.slice (some ⟨g,0,none⟩) (N+1) (N+1))) w'):
  Calls Tryz.prog 69 #[.slice a N c] w R:=by
 have HR:=zl hR
 have HX:=zl hx
 clear hR hx
 obtain ⟨i0,hi,hz0,hz1,hz2⟩:=info_parts Tryz.infoU8
 have HI:=zl4 hi hz0 hz1 hz2
 clear hi hz0 hz1 hz2
 go_enter Tryz.func69,Tryz.ntmps69
 go_wp2_with (refine wpList_make_full _ rfl _ _ _ rfl w.heap.size 5 i0 (.int .u8 0) 1 Tryz.underlying31 HI.o.1 HI.o.2.1 HI.o.2.2.1 _ _ _ _ (N+1) rfl rfl ?c1 ?c2 ?c3 ?c4 nr ?_)
 case c1=>omega
 case c2=>omega
 case c3=>rw[HI.o.2.2.2];omega
 case c4=>unfold maxLen;omega
 intro w1 hown hgr
 have HO:=zl hown
 have HB:Hid (Below w.heap.size w w1):=⟨hgr.os,hgr.tape,hgr.output,hgr.size,fun k hk=>hgr.block k hk (by simp)⟩
 clear hown hgr
 go_wp2_with (refine zf1 rfl _ _ _ _ rfl 5 5 1 Tryz.underlying31 ?d1 w.heap.size w.heap.size (N+1) (N+1) _ HO.o a N c (by omega) (zg7 X N) rfl rfl ?d2 ?d3 ?d4 ?_)
 case d1=>rw[HI.o.1];simp[HI.o.2.2.1]
 case d2=>
  intro k hk
  rw[Nat.mul_one] at hk
  obtain ⟨b,o,h1,h2⟩:=HX.o k hk
  refine⟨b,o,h1,?_⟩
  rw[HB.o.cell (p:=⟨b,o+k,none⟩) (zab h2),h2]
  simp[zg7,hk]
 case d3=>
  intro k hk1 hk2
  rw[Nat.mul_one] at hk1 hk2
  rw[made_one _ _ _ hk2]
  simp only[zg7,if_neg (show ¬k<N by omega)]
 case d4=>intro k;rfl
 intro w2 hg2 hs2 ho2
 have hfin:Hid (R (.returned (.slice (some ⟨w.heap.size,0,none⟩) (N+1) (N+1))) w2):=HR.o _ _ (HB.o.trans ⟨hg2.os,hg2.tape,hg2.output,by omega,fun k hk=>hg2.block k (lll hk HB.o.size) (by simp;omega)⟩) ho2
 clear hg2 hs2 ho2
 go_wp2_with fail
 exact hfin.o
theorem mark_any (B:Nat)(last:Int)(w:World)(R:EW)(h9:w.cell? ⟨B,9,none⟩=some (.int .i64 last))(hf:w.frozen? ⟨B,9,none⟩=false)(h1: -1073741824<=last)(h2:last<=0)
  (hR:R (.returned (.int .i64 (last-1))) (w.setCell ⟨B,9,none⟩ (.int .i64 (last-1)))):
  Calls Tryz.prog 109 #[.pointer (some ⟨B,0,none⟩)] w R:=by
 have HR:=zl hR
 clear hR
 go_enter Tryz.func109,Tryz.ntmps109
 go_wp2_with fail
 exact HR.o
end
section
theorem Tryz.infoBytes:(Tryz.prog.info? 31).map (fun i=>(i.zero,i.size,i.bytes))=some (some (.slice none 0 0),1,24):=by kernel_rfl
theorem Tryz.infoEvents:(Tryz.prog.info? 32).map (fun i=>(i.zero,i.size,i.bytes))=some (some (.slice none 0 0),1,24):=by kernel_rfl
variable {N base g:Nat} {X:Nat->Int} {w:World}
theorem told_bytes {n:Nat}(h:w.ownsRow base 5 1 (.slice (some ⟨g,0,none⟩) n n) n (told (zg7 X N) n))(i:Nat)(hi:i<n):
  w.cell? ⟨g,i,none⟩=some (.int .u8 (if i<N then X i else 0))/\w.frozen? ⟨g,i,none⟩=false:=by
 obtain ⟨g',cap,h1,_,_,_,h5,h6⟩:=zan h i _ (zdb _ _ _ hi)
 simp only[Value.slice.injEq,Option.some.injEq,Addr.mk.injEq,and_true] at h1
 obtain ⟨rfl,_⟩:=h1
 exact⟨h5,h6⟩
theorem returned_w {Z B:Nat}{own:Nat->Nat×Int}{f:Nat->Value}{xs:Nat->List Value}{ms:List Nat}{em:List Int}{last:Int}{many:Nat}{R:EW}{c:Nat}{a:Option Addr}
  (hW:WK Z base B own w f xs ms em last many)(h7:(xs 7).length+1<=Z)(hN:N<=1048576)(hl:w.ownsRow base 5 1 (.slice (some ⟨g,0,none⟩) (N+1) (N+1)) (N+1) (told (zg7 X N) (N+1)))(hg:own g=(4,((xs 7).length:Int)))
  (hx:BsAt w a N X)
  (hR: ∀own' f' xs' w',WK Z base B own' w' f' xs' ms em last many->(∀i,i≠7->xs' i=xs i)->(xs' 7).length=(xs 7).length+1->zaj base own (fun t=>t≠(4,((xs 7).length:Int))/\t≠(1,7)/\t≠(0,0)) w own' w'->Below base w w'->R (.returned (.bool true)) w'):
  Calls Tryz.prog 72 #[.pointer (some ⟨B,0,none⟩),.slice (some ⟨g,0,none⟩) (N+1) (N+1),.slice a N c] w R:=by
 have HR:=zl hR
 have HW:=zl hW
 have HL:=zl hl
 have HG:=zl hg
 have HX:=zl hx
 have H7:=zl h7
 have hgb:base<=g:=(hl.lt g rfl).1
 clear hR hW hl hg hx h7
 go_enter Tryz.func72,Tryz.ntmps72
 go_wp2_with fail
 refine zfn _ _ _ _ _ _ X X _ _ (by omega) (by omega) ?a1 ?a2 ?_
 case a1=>exact fun i hi=>⟨g,0,rfl,by rw[Nat.zero_add,(told_bytes HL.o i (by omega)).1,if_pos hi]⟩
 case a2=>exact fun i hi=>HX.o i hi
 intro w1 hb1
 have hdec:decide (N=N/\ ∀i,i<N->X i=X i)=true:=by simp
 rw[hdec]
 clear hdec
 have HW1:=zl (HW.o.ext hb1)
 have HB1:=zl hb1
 have HL1:Hid (w1.ownsRow base 5 1 (.slice (some ⟨g,0,none⟩) (N+1) (N+1)) (N+1) (told (zg7 X N) (N+1))):=(zaq (tag:=own g) HL.o (fun q hq=>by simp[Value.ownBlock] at hq;rw[hq]) (zaj.of_below (own:=own) hb1) trivial).1
 have hz:w1.cell? ⟨g,N,none⟩=some (.int .u8 0):=by rw[(told_bytes HL1.o N (by omega)).1,if_neg (by omega)]
 clear hb1
 go_wp2_with fail
 clear hz
 go_loopw [9] (fun t wr=> ∃(i:Nat) (ys:List Value),i<=N+1/\t= .int .i64 i/\wr.ownsRow base 5 1 (.slice (some ⟨g,0,none⟩) (N+1) (N+1)) (N+1) ys/\(∀k,k<i->ys[k]?=some (.int .u8 (77:Nat)))/\zaj base own (fun t=>t≠(4,((xs 7).length:Int))) w1 own wr/\Below base w1 wr) (fun t _=>N+1-(intOf t).toNat)
 case atStart=>exact⟨0,_,Nat.zero_le _,rfl,HL1.o,fun k hk=>absurd hk (by omega),⟨nr,fun _ _=>rfl,fun _ _ _ _=>rfl⟩,br⟩
 case round=>
  obtain ⟨i,ys,hi,rfl,ho,hk,hs,hb⟩:=hrel
  by_cases hlt:i<N+1
  .have hyl:ys.length=N+1:=by have:=ho.1;omega
   obtain ⟨g',cap,q1,_,_,_,hc,hf⟩:=zan ho i _ (List.getElem?_eq_getElem (by omega))
   simp only[Value.slice.injEq,Option.some.injEq,Addr.mk.injEq,and_true] at q1
   obtain ⟨rfl,_⟩:=q1
   have E:Hid ((wr.setCell ⟨g,i,none⟩ (.int .u8 (77:Nat))).ownsRow base 5 1 (.slice (some ⟨g,0,none⟩) (N+1) (N+1)) (N+1) (ys.set i (.int .u8 (77:Nat)))/\(∀k,k<i+1->(ys.set i (.int .u8 (77:Nat)))[k]?=some (.int .u8 (77:Nat)))/\zaj base own (fun t=>t≠(4,((xs 7).length:Int))) w1 own (wr.setCell ⟨g,i,none⟩ (.int .u8 (77:Nat)))/\Below base w1 (wr.setCell ⟨g,i,none⟩ (.int .u8 (77:Nat)))):=by
    refine⟨zcs ho g i _ rfl,?_,hs.trans (zaj.set.mono (by intro t ht;rw[HG.o];exact ht)),hb.setCell hgb _⟩
    intro k hk'
    by_cases he:k=i
    .subst he
     simp[hyl,hlt]
    .rw[List.getElem?_set_ne (by omega)]
     exact hk k (by omega)
   clear ho hk hs hb
   go_wp2_with fail
   go_roundw
   case rel=>exact⟨i+1,_,by omega,by go_num,E.out⟩
   case measure=>simp only[intOf];omega
  .have hi':i=N+1:=by omega
   subst hi'
   have HO:Hid (wr.ownsRow base 5 1 (.slice (some ⟨g,0,none⟩) (N+1) (N+1)) (N+1) (told (fun _=> .int .u8 (77:Nat)) (N+1))):=by
    rw[←zfk (by have:=ho.1;omega) hk]
    exact ho
   have HWr:=zl (HW1.o.stays hs (by simp) (by simp) (by simp) (by simp) (by intro q hq;simp;omega) (by simp) (by simp))
   have HS:Hid (zaj base own (fun t=>t≠(4,((xs 7).length:Int))) w own wr):=((zaj.of_below HB1.o).mono fun _ _=>trivial).trans hs
   have HBr:Hid (Below base w wr):=(HB1.o.mono (by have:=zak HW.o.wj.blk;have:=HW.o.wj.hB;omega)).trans hb
   have c7:=HWr.o.wj.cell 7 (by decide)
   have r7:=HWr.o.wj.rows 7 (by simp[zb2])
   have hsz:base<=wr.heap.size:=by have:=zak HWr.o.wj.blk;have:=HWr.o.wj.hB;omega
   have h67:(xs 7).length+1<=1073741824:=by have:=H7.o;have:=HWr.o.hZ;omega
   obtain ⟨a7,k7,e7⟩:=zar r7
   have F7:=zl e7
   rw[e7] at c7 r7
   have R7:=zl r7
   clear ho hk hs hb r7 e7
   go_wp2_with (at_builtin;go_must (refine za7 base 1 24 (xs 7).length _ (xs 7) _ R7.out hsz Tryz.infoBytes rfl (by decide) rfl ?c2 ?c3 (by decide) _ _ 25 Tryz.underlying25 rfl rfl rfl rfl ?_))
   case c2=>simp[Value.oneCell']
   case c3=>exact h67
   intro v1 w2 hG
   obtain ⟨a1,k1,rfl⟩:=zar hG.own
   have HG2:Hid (Grew base (ty 7) 1 wr (f 7) w2 (.slice a1 ((xs 7).length+1) k1) ((xs 7).length+1) (xs 7++[.slice (some ⟨g,0,none⟩) (N+1) (N+1)])):=by rw[F7.out];exact hG
   clear hG c7
   obtain ⟨hc,hz,HBB⟩:=HWr.o.wj.grew 7 (by simp[zb2]) HG2.o
   have HBB':=zl HBB
   have c7:w2.cell? ⟨B,7,none⟩=some (f 7):=(hc 7).trans (HWr.o.wj.cell 7 (by decide))
   have z7:=hz 7
   clear hc hz HBB
   have hfin:Hid (R (.returned (.bool true)) (w2.setCell ⟨B,7,none⟩ (.slice a1 ((xs 7).length+1) k1))):=by
    obtain ⟨hk,hs⟩:=HWr.o.push7 H7.o HG2.o (EntN.own (by rw[Nat.mul_one];exact HO.o) (fun q hq=>by simp[Value.ownBlock] at hq;rw[←hq];exact HG.o) (by omega)).1
    refine HR.o _ _ _ _ hk (fun i hi=>by simp[hi]) (by simp) ?_ (HBr.o.trans HBB'.o)
    exact(HS.o.mono (fun _ h=>h.1)).trans (hs.mono fun _ h=>h.2)
   go_wp2_with fail
   exact hfin.o
end
