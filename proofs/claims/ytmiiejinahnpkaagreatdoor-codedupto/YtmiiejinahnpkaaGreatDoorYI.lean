import Derived.Test.YtmiiejinahnpkaaGreatDoorYH
set_option maxRecDepth 8000
set_option maxHeartbeats 1000000
namespace Go.Proofs.YtmiiejinahnpkaaGreatDoor
open Go.RowKit
section
variable {B Z base many n:Nat} {e:TypeId} {w0 w1:World}
theorem Grew.undrew {size:Nat}{w:World}{v v':Value}{xs:List Value}(h:Grew B e size w.drew v w1 v' n xs):Grew B e size w v w1 v' n xs:=
 ⟨h.own,⟨h.grown.os,h.grown.tape,h.grown.output,h.grown.size,h.grown.block⟩,h.lies⟩
theorem zjq (w:World)(p:Addr)(v:Value):(w.setCell p v).heap.size=w.heap.size:=by simp[World.setCell]
theorem push_at {P:Program}{ops:Array Oper}{rest:List Oper}{o:Oper}{a:Act}{Q:Exit->Act->World->Prop}{W:World}{arr:Array Value}
  (H:Nat)(hH:W.heap.size=H)(B size bytes n:Nat)(v:Value)(xs:List Value)(z:Value)(hown:W.ownsRow B e size v n xs)(hB:B<=W.heap.size)
  (hinfo:(P.info? e).map (fun i=>(i.zero,i.size,i.bytes))=some (some z,size,bytes))(hzs:z.cells.size=size)(hsz:0<size)(harr:arr.size=size)
  (h1: ∀u∈arr.toList,u.oneCell'=true)(hn:n+1<=1073741824)(hby:bytes<=256)
  (s y:Operand)(t:TypeId)(ht:P.underlying t=some (.slice e))(hgd:o.guard=none)(ho:o.op= .call {callee:= .builtin .append,args:= #[s,y],argTypes:= #[t,t]})
  (hs:a.eval s=v)(hy:a.eval y= .slice (some ⟨H,0,none⟩) 1 1)
  (h: ∀v' w',Grew B e size W v w' v' (n+1) (xs++arr.toList)->wpList P ops Q rest (a.put o.dst v') w'):
  wpList P ops Q (o::rest) a (W.alloc (.cells arr e)):=by
 subst hH
 exact za7 B size bytes n v xs z hown hB hinfo hzs hsz harr h1 hn hby s y t ht hgd ho hs hy h
structure TagNew (t:Nat×Int) (last:Int) (many:Nat):Prop where
 h0:t.1≠0
 h1:t.1≠1
 h2: ∀m:Nat,m<=many->((2,(m:Int)):Nat×Int)≠t
 h3: ∀m:Int,last<=m->((3,m):Nat×Int)≠t
 h4:t.1≠4
 h5:t.1≠5
 h8: ∀m:Int,last<=m->((8,m):Nat×Int)≠t
def MT:Nat×Int->Prop:=fun t=>t.1=6\/t.1=7
structure KB (base B:Nat) (t:Nat×Int) (e:TypeId) (size:Nat) (φ:Nat->Value) (lastW:Int) (manyW:Nat) (last:Int) (many:Nat) (ms:List Nat) (em:List Int) (x0:Nat->List Value) (w0:World) (oO:Nat->Nat×Int)
  (own:Nat->Nat×Int) (w:World) (f:Nat->Value) (xs:Nat->List Value) (n:Nat) (l:Value) (ns:List Value):Prop where
 wj:WJ base B own w f xs lastW manyW
 lb:EB base own w (x0 1) ms many
 le:EE base own w (x0 5) em last
 li:EI base own w (x0 7)
 ll:EL base own w (x0 8)
 lq:EO base own w (x0 3) (x0 4) last
 lo:w.ownsRow base e size l n (told φ (n * size))
 lt: ∀g,l.ownBlock=some g->own g=t
 ns: ∀x,x∈ns->EntN base own t w e size φ n x
 hb:Below base w0 w
 st:zaj base oO MT w0 own w
section
variable {base B:Nat} {t:Nat×Int} {e:TypeId} {size:Nat} {φ:Nat->Value} {lastW:Int} {manyW:Nat} {last:Int} {many:Nat} {ms:List Nat} {em:List Int} {x0:Nat->List Value} {w0:World} {oO:Nat->Nat×Int}
  {own:Nat->Nat×Int} {w w1:World} {f:Nat->Value} {xs:Nat->List Value} {n:Nat} {l:Value} {ns:List Value}
theorem KB.room (h:KB base B t e size φ lastW manyW last many ms em x0 w0 oO own w f xs n l ns):base<=w.heap.size:=by
 have:=zak h.wj.blk
 have:=h.wj.hB
 omega
theorem KB.row (h:KB base B t e size φ lastW manyW last many ms em x0 w0 oO own w f xs n l ns)(ht:TagNew t last many)(j:Nat)(hj:zb2 j){v' x:Value}(hG:Grew base (ty j) 1 w (f j) w1 v' ((xs j).length+1) (xs j++[x])):
  KB base B t e size φ lastW manyW last many ms em x0 w0 oO (za9 own w v' (1,(j:Int))) (w1.setCell ⟨B,j,none⟩ v') (fun i=>if i=j then v' else f i) (fun i=>if i=j then xs j++[x] else xs i) n l ns:=by
 obtain ⟨hw,hs⟩:=h.wj.push j hj hG
 have htt:t≠(1,(j:Int))/\t≠(0,0):=⟨fun q=>ht.h1 (by rw[q]),fun q=>ht.h0 (by rw[q])⟩
 obtain ⟨ho,hot⟩:=zaq h.lo h.lt hs htt
 exact⟨hw,h.lb.stays hs (by simp),h.le.stays hs (by simp),h.li.stays hs (by simp),h.ll.stays hs (by simp),h.lq.stays hs (by simp),ho,hot,fun x hx=>(h.ns x hx).stays hs htt,h.hb.trans (h.wj.grew j hj hG).2.2,h.st.trans (hs.mono (by rintro ⟨a,b⟩ q;unfold MT at q;simp only[ne_eq,Prod.mk.injEq];omega))⟩
theorem KB.mem (h:KB base B t e size φ lastW manyW last many ms em x0 w0 oO own w f xs n l ns)(hn:n<=67108864):KB base B t e size φ lastW manyW last many ms em x0 w0 oO own w f xs n l (ns++[l]):=by
 refine⟨h.wj,h.lb,h.le,h.li,h.ll,h.lq,h.lo,h.lt,fun x hx=>?_,h.hb,h.st⟩
 simp only[List.mem_append,List.mem_singleton] at hx
 rcases hx with hx|rfl
 .exact h.ns x hx
 .exact EntN.own h.lo h.lt hn
theorem KB.grow (h:KB base B t e size φ lastW manyW last many ms em x0 w0 oO own w f xs n l ns)(ht:TagNew t last many)(hMT: ¬MT t){l':Value}(hG:Grew base e size w l w1 l' (n+1) (told φ ((n+1) * size)))(hA:Apart w l w1 l'):
  KB base B t e size φ lastW manyW last many ms em x0 w0 oO (za9 own w l' t) w1 f xs (n+1) l' ns:=by
 obtain ⟨hs,hl⟩:=hG.stays h.lt
 exact⟨h.wj.stays hs (fun q=>ht.h0 (by rw[←q])) (fun j _ q=>ht.h1 (by rw[←q])),h.lb.stays hs ht.h2,h.le.stays hs ht.h3,h.li.stays hs (fun i _ q=>ht.h4 (by rw[←q])),h.ll.stays hs (fun i _ q=>ht.h5 (by rw[←q])),h.lq.stays hs ht.h8,hG.own,hl,fun x hx=>(h.ns x hx).push hG hA,
  h.hb.trans (hG.below h.room fun g hg=>(h.lo.lt g hg).1),h.st.trans (hs.mono fun x q e=>hMT (e▸q))⟩
end
variable {last:Int} {em:List Int} {ms:List Nat} {x0:Nat->List Value} {oO:Nat->Nat×Int}
theorem KB.bytes
  {own:Nat->Nat×Int}{w:World}{f:Nat->Value}{xs:Nat->List Value}{n:Nat}{l:Value}{ns:List Value}{own0:Nat->Nat×Int}{f0:Nat->Value}{w00:World}
  (h0:WK Z base B own0 w00 f0 x0 ms em last many)(h1:(x0 1).length+4<=4 * Z)(hm:many+1<=Z)
  (h:KB base B (2,((many+1:Nat):Int)) 5 1 (fun _=> .int .u8 (dg (many+1) 0:Nat)) last (many+1) last many ms em x0 w0 oO own w f xs n l ns)
  (hx: ∀i,i≠1->i≠2->xs i=x0 i)(hx1:xs 1=x0 1++ns)(hx2:xs 2=x0 2++List.replicate 4 (.int .i64 ((many+1:Nat):Int)))(hns:ns.length=4):
  WK Z base B own w f xs (ms++List.replicate 4 (many+1)) em last (many+1):=by
 have nn:=h0.nn
 have hl2:=h0.l2
 refine⟨h.wj,?_,?_,?_,?_,?_,?_,?_,?_,?_,?_,?_,h0.hZ⟩
 .rw[hx2,h0.x2]
  simp
 .rw[hx 6 (by decide) (by decide),h0.x6]
 .rw[hx1]
  simp[hns,hl2]
 .rw[hx 5 (by decide) (by decide),h0.l6]
 .intro i v m q1 q2
  rw[hx1] at q1
  by_cases hi:i<(x0 1).length
  .rw[List.getElem?_append_left hi] at q1
   rw[List.getElem?_append_left (by omega)] at q2
   obtain ⟨r1,r2⟩:=h.lb i v m q1 q2
   exact⟨r1,by omega⟩
  .rw[List.getElem?_append_right (by omega)] at q1
   rw[List.getElem?_append_right (by omega),List.getElem?_replicate] at q2
   split at q2
   .simp only[Option.some.injEq] at q2
    subst q2
    exact⟨(h.ns v (List.mem_of_getElem? q1)).1,nr⟩
   .simp at q2
 .rw[hx 5 (by decide) (by decide)]
  exact h.le
 .rw[hx 3 (by decide) (by decide),hx 4 (by decide) (by decide)]
  exact h0.l4
 .rw[hx 3 (by decide) (by decide),hx 4 (by decide) (by decide)]
  exact h.lq
 .rw[hx 7 (by decide) (by decide)]
  exact h.li
 .rw[hx 8 (by decide) (by decide)]
  exact h.ll
 .rw[hx 5 (by decide) (by decide),hx 7 (by decide) (by decide),hx 8 (by decide) (by decide),hx 3 (by decide) (by decide),hx1]
  simp only[List.length_append,hns]
  omega
theorem KB.events
  {own:Nat->Nat×Int}{w:World}{f:Nat->Value}{xs:Nat->List Value}{n:Nat}{l:Value}{ns:List Value}{own0:Nat->Nat×Int}{f0:Nat->Value}{w00:World}
  (h0:WK Z base B own0 w00 f0 x0 ms em last many)(h1:(x0 5).length+4<=4 * Z)(hm: -(Z:Int)<=last-1)
  (h:KB base B (3,last-1) 42 10 (fun k=> .int .i64 (kev (last-1) (k%10))) (last-1) many last many ms em x0 w0 oO own w f xs n l ns)
  (hx: ∀i,i≠5->i≠6->xs i=x0 i)(hx1:xs 5=x0 5++ns)(hx2:xs 6=x0 6++List.replicate 4 (.int .i64 (last-1)))(hns:ns.length=4):
  WK Z base B own w f xs ms (em++List.replicate 4 (last-1)) (last-1) many:=by
 have nn:=h0.nn
 have hl2:=h0.l6
 refine⟨h.wj,?_,?_,?_,?_,?_,?_,?_,?_,?_,?_,?_,h0.hZ⟩
 .rw[hx 2 (by decide) (by decide),h0.x2]
 .rw[hx2,h0.x6]
  simp
 .rw[hx 1 (by decide) (by decide),h0.l2]
 .rw[hx1]
  simp[hns,hl2]
 .rw[hx 1 (by decide) (by decide)]
  exact h.lb
 .intro i v m q1 q2
  rw[hx1] at q1
  by_cases hi:i<(x0 5).length
  .rw[List.getElem?_append_left hi] at q1
   rw[List.getElem?_append_left (by omega)] at q2
   obtain ⟨r1,r2⟩:=h.le i v m q1 q2
   exact⟨r1,by omega⟩
  .rw[List.getElem?_append_right (by omega)] at q1
   rw[List.getElem?_append_right (by omega),List.getElem?_replicate] at q2
   split at q2
   .simp only[Option.some.injEq] at q2
    subst q2
    exact⟨(h.ns v (List.mem_of_getElem? q1)).1,Int.le_refl _⟩
   .simp at q2
 .rw[hx 3 (by decide) (by decide),hx 4 (by decide) (by decide)]
  exact h0.l4
 .rw[hx 3 (by decide) (by decide),hx 4 (by decide) (by decide)]
  intro i v u q1 q2
  obtain ⟨m,r1,r2,r3⟩:=h.lq i v u q1 q2
  exact⟨m,r1,r2,by omega⟩
 .rw[hx 7 (by decide) (by decide)]
  exact h.li
 .rw[hx 8 (by decide) (by decide)]
  exact h.ll
 .rw[hx 1 (by decide) (by decide),hx 7 (by decide) (by decide),hx 8 (by decide) (by decide),hx 3 (by decide) (by decide),hx1]
  simp only[List.length_append,hns]
  omega
theorem KB.orders
  {own:Nat->Nat×Int}{w:World}{f:Nat->Value}{xs:Nat->List Value}{n:Nat}{l:Value}{ns:List Value}{own0:Nat->Nat×Int}{f0:Nat->Value}{w00:World}
  (h0:WK Z base B own0 w00 f0 x0 ms em last many)(h1:(x0 3).length+4<=4 * Z)(hm: -(Z:Int)<=last-1)
  (h:KB base B (8,last-1) 89 6 (fun k=>kod (last-1) (k%6)) (last-1) many last many ms em x0 w0 oO own w f xs n l ns)
  (hx: ∀i,i≠3->i≠4->xs i=x0 i)(hx1:xs 3=x0 3++ns)(hx2:xs 4=x0 4++List.replicate 4 (.int .i64 (last-1)))(hns:ns.length=4):
  WK Z base B own w f xs ms em (last-1) many:=by
 have nn:=h0.nn
 have hl4:=h0.l4
 refine⟨h.wj,?_,?_,?_,?_,?_,?_,?_,?_,?_,?_,?_,h0.hZ⟩
 .rw[hx 2 (by decide) (by decide),h0.x2]
 .rw[hx 6 (by decide) (by decide),h0.x6]
 .rw[hx 1 (by decide) (by decide),h0.l2]
 .rw[hx 5 (by decide) (by decide),h0.l6]
 .rw[hx 1 (by decide) (by decide)]
  exact h.lb
 .rw[hx 5 (by decide) (by decide)]
  intro i v m q1 q2
  obtain ⟨r1,r2⟩:=h.le i v m q1 q2
  exact⟨r1,by omega⟩
 .rw[hx1,hx2]
  simp[hns,hl4]
 .intro i v u q1 q2
  rw[hx1] at q1
  rw[hx2] at q2
  by_cases hi:i<(x0 3).length
  .rw[List.getElem?_append_left hi] at q1
   rw[List.getElem?_append_left (by omega)] at q2
   obtain ⟨m,r1,r2,r3⟩:=h.lq i v u q1 q2
   exact⟨m,r1,r2,by omega⟩
  .rw[List.getElem?_append_right (by omega)] at q1
   rw[List.getElem?_append_right (by omega),List.getElem?_replicate] at q2
   split at q2
   .simp only[Option.some.injEq] at q2
    subst q2
    exact⟨_,rfl,(h.ns v (List.mem_of_getElem? q1)).1,Int.le_refl _⟩
   .simp at q2
 .rw[hx 7 (by decide) (by decide)]
  exact h.li
 .rw[hx 8 (by decide) (by decide)]
  exact h.ll
 .rw[hx 1 (by decide) (by decide),hx 5 (by decide) (by decide),hx 7 (by decide) (by decide),hx 8 (by decide) (by decide),hx1]
  simp only[List.length_append,hns]
  omega
def zg8 (L:Int) (k:Nat):Value:= .int .i64 (kev L (k%10))
def zjf (w:World) (g o:Nat) (L:Int):World:=
 (((((((((w.setCell ⟨g,o,none⟩ (.int .i64 L)).setCell ⟨g,o+1,none⟩ (.int .i64 0)).setCell ⟨g,o+2,none⟩ (.int .i64 0)).setCell ⟨g,o+3,none⟩ (.int .i64 0)).setCell ⟨g,o+4,none⟩ (.int .i64 0)).setCell ⟨g,o+5,none⟩ (.int .i64 0)).setCell ⟨g,o+6,none⟩ (.int .i64 0)).setCell ⟨g,o+7,none⟩ (.int .i64 0)).setCell ⟨g,o+8,none⟩ (.int .i64 0)).setCell ⟨g,o+9,none⟩ (.int .i64 0)
theorem paint10 {D g c i:Nat}{own:Nat->Nat×Int}{t:Nat×Int}{wr:World}{zs:List Value}{L:Int}(ho:wr.ownsRow base e 10 (.slice (some ⟨g,0,none⟩) n c) n zs)(hi:i<n)(hk: ∀k,k<i * 10->zs[k]?=some (zg8 L k))
  (hs:zaj base own (fun x=>x≠t) w1 own wr)(hg:own g=t)(hb:Below D w1 wr)(hgb:D<=g):
  ∃zs',(zjf wr g (i * 10) L).ownsRow base e 10 (.slice (some ⟨g,0,none⟩) n c) n zs'/\(∀k,k<(i+1) * 10->zs'[k]?=some (zg8 L k))/\zaj base own (fun x=>x≠t) w1 own (zjf wr g (i * 10) L)/\Below D w1 (zjf wr g (i * 10) L)/\ ∀k,(i+1) * 10<=k->zs'[k]?=zs[k]?:=by
 have hyl:zs.length=n * 10:=ho.1
 have hS: ∀(w:World) (k:Nat) (x:Value),zaj base own (fun x=>x≠t) w1 own w->zaj base own (fun x=>x≠t) w1 own (w.setCell ⟨g,k,none⟩ x):=fun w k x h=>h.trans (zaj.set.mono (by intro t ht;rw[hg];exact ht))
 refine⟨_,zcs (zcs (zcs (zcs (zcs (zcs (zcs (zcs (zcs (zcs ho g (i * 10) (.int .i64 L) rfl) g (i * 10+1) (.int .i64 0) rfl) g (i * 10+2) (.int .i64 0) rfl) g (i * 10+3) (.int .i64 0) rfl) g (i * 10+4) (.int .i64 0) rfl) g (i * 10+5) (.int .i64 0) rfl) g (i * 10+6) (.int .i64 0) rfl) g (i * 10+7) (.int .i64 0) rfl) g (i * 10+8) (.int .i64 0) rfl) g (i * 10+9) (.int .i64 0) rfl,?_,?_,?_,?_⟩
 .intro k hk'
  by_cases hlt:k<i * 10
  .rw[List.getElem?_set_ne (by omega),List.getElem?_set_ne (by omega),List.getElem?_set_ne (by omega),List.getElem?_set_ne (by omega),List.getElem?_set_ne (by omega),List.getElem?_set_ne (by omega),List.getElem?_set_ne (by omega),List.getElem?_set_ne (by omega),List.getElem?_set_ne (by omega),List.getElem?_set_ne (by omega)]
   exact hk k hlt
  .obtain ⟨j,rfl⟩: ∃j,k=i * 10+j:=⟨k-i * 10,by omega⟩
   have hj:j<10:=by omega
   have hkc:zg8 L (i * 10+j)= .int .i64 (kev L j):=by unfold zg8;rw[show (i * 10+j)%10=j by omega]
   rw[hkc]
   have hb0: ∀q,q<10->i * 10+q<n * 10:=fun q hq=>by omega
   rcases (show j=0\/j=1\/j=2\/j=3\/j=4\/j=5\/j=6\/j=7\/j=8\/j=9 by omega) with rfl|rfl|rfl|rfl|rfl|rfl|rfl|rfl|rfl|rfl<;>simp[List.getElem?_set,hyl,kev]<;>omega
 .exact hS _ _ _ (hS _ _ _ (hS _ _ _ (hS _ _ _ (hS _ _ _ (hS _ _ _ (hS _ _ _ (hS _ _ _ (hS _ _ _ (hS _ _ _ hs)))))))))
 .exact((((((((((hb.setCell hgb _).setCell hgb _).setCell hgb _).setCell hgb _).setCell hgb _).setCell hgb _).setCell hgb _).setCell hgb _).setCell hgb _).setCell hgb _)
 .intro k hk'
  rw[List.getElem?_set_ne (by omega),List.getElem?_set_ne (by omega),List.getElem?_set_ne (by omega),List.getElem?_set_ne (by omega),List.getElem?_set_ne (by omega),List.getElem?_set_ne (by omega),List.getElem?_set_ne (by omega),List.getElem?_set_ne (by omega),List.getElem?_set_ne (by omega),List.getElem?_set_ne (by omega)]
end
section
theorem keepEvents_w {Z base B:Nat}{own:Nat->Nat×Int}{w:World}{f:Nat->Value}{xs:Nat->List Value}{ms:List Nat}{em:List Int}{last:Int}{many:Nat}{R:EW}{n:Nat}{v:Value}{ys:List Value}
  (hW:WK Z base B own w f xs ms em last many)(h1:(xs 5).length+4<=4 * Z)(hm: -(Z:Int)<=last-1)(hn:n<=67108860)(hl:w.ownsRow base 42 10 v n ys)(hg: ∀g,v.ownBlock=some g->own g=(3,last-1))
  (hR: ∀own' f' xs' em' w',WK Z base B own' w' f' xs' ms em' (last-1) many->(∀i,i≠5->i≠6->xs' i=xs i)->(xs' 5).length=(xs 5).length+4->Below base w w'->zaj base own MT w own' w'->R (.returned (.tuple #[])) w'):
  Calls Tryz.prog 77 #[.pointer (some ⟨B,0,none⟩),v] w R:=by
 have HR:=zl hR
 have HW:=zl hW
 obtain ⟨a,c,rfl⟩:=zar hl
 have HL:Hid (w.ownsRow base 42 10 (.slice a n c) n ys):=hl
 have HG:Hid (∀g,(Value.slice a n c).ownBlock=some g->own g=(3,last-1)):=hg
 have H1:=zl h1
 have hZ:=hW.hZ
 have c9:w.cell? ⟨B,9,none⟩=some (.int .i64 last):=by rw[cell_of_row w B 9 _ _ (0,0) hW.wj.blk];rfl
 have z9:=hW.wj.free 9
 have hlast:=hW.nn.2.2.2.2.2
 clear hR hW hl hg h1
 go_enter Tryz.func77,Tryz.ntmps77
 go_wp2_with fail
 refine mark_any B last _ _ c9 z9 (by omega) (by omega) ?_
 obtain ⟨L,hL⟩:=xq (last-1)
 obtain ⟨hj1,hs1⟩:=HW.o.wj.setLast (last-1)
 have hbB:base<=B:=HW.o.wj.hB
 have hb1:Below base w (w.setCell ⟨B,9,none⟩ (.int .i64 (last-1))):=(Below.refl base w).setCell hbB _
 rw[←hL] at hj1 hs1 hb1 ⊢
 have HM:=zl hL
 have hTN:TagNew (3,L) last many:=⟨by simp,by simp,by simp,by intro m hm q;simp only[Prod.mk.injEq,true_and] at q;omega,by simp,by simp,by simp⟩
 have HTN:=zl hTN
 have HG':Hid (∀g,(Value.slice a n c).ownBlock=some g->own g=(3,L)):=by rw[hL];exact HG.o
 obtain ⟨w1,hw1⟩:=xq (w.setCell ⟨B,9,none⟩ (.int .i64 L))
 rw[←hw1] at hj1 hs1 hb1 ⊢
 obtain ⟨hl1,ht1⟩:=zaq HL.o HG'.o hs1 (by simp)
 have HJ1:=zl hj1
 have HS1:=zl hs1
 have HB1:=zl hb1
 have HL1:=zl hl1
 have hL1: -1073741824<=L:=by omega
 have hL2:L<=0:=by omega
 clear hl1 ht1 hj1 hs1 hb1 hw1 hL hTN c9 z9
 go_wp2_with fail
 go_loopw [5] (fun t wr=> ∃(i:Nat) (zs:List Value),i<=n/\t= .int .i64 i/\wr.ownsRow base 42 10 (.slice a n c) n zs/\(∀k,k<i * 10->zs[k]?=some (zg8 L k))/\zaj base own (fun t=>t≠(3,L)) w1 own wr/\Below base w1 wr) (fun t _=>n-(intOf t).toNat)
 case atStart=>exact⟨0,_,Nat.zero_le _,rfl,HL1.o,fun k hk=>absurd hk (by omega),⟨nr,fun _ _=>rfl,fun _ _ _ _=>rfl⟩,br⟩
 case round=>
  obtain ⟨i,zs,hi,rfl,ho,hk,hs,hb⟩:=hrel
  by_cases hlt:i<n
  .have hyl:zs.length=n * 10:=ho.1
   obtain ⟨g,cap,q1,hgb,_,_,_,_⟩:=zan ho (i * 10) _ (List.getElem?_eq_getElem (by omega))
   simp only[Value.slice.injEq] at q1
   obtain ⟨rfl,_⟩:=q1
   have hc: ∀j,j<10-> ∃u,wr.cell? ⟨g,i * 10+j,none⟩=some u/\wr.frozen? ⟨g,i * 10+j,none⟩=false:=by
    intro j hj
    obtain ⟨g',cap',q1,_,_,_,hc,hf⟩:=zan ho (i * 10+j) _ (List.getElem?_eq_getElem (by omega))
    simp only[Value.slice.injEq,Option.some.injEq,Addr.mk.injEq,and_true] at q1
    obtain ⟨rfl,_⟩:=q1
    exact⟨_,hc,hf⟩
   obtain ⟨u0,d0,e0⟩:=hc 0 (by decide)
   obtain ⟨u1,d1,e1⟩:=hc 1 (by decide)
   obtain ⟨u2,d2,e2⟩:=hc 2 (by decide)
   obtain ⟨u3,d3,e3⟩:=hc 3 (by decide)
   obtain ⟨u4,d4,e4⟩:=hc 4 (by decide)
   obtain ⟨u5,d5,e5⟩:=hc 5 (by decide)
   obtain ⟨u6,d6,e6⟩:=hc 6 (by decide)
   obtain ⟨u7,d7,e7⟩:=hc 7 (by decide)
   obtain ⟨u8,d8,e8⟩:=hc 8 (by decide)
   obtain ⟨u9,d9,e9⟩:=hc 9 (by decide)
   rw[Nat.add_zero] at d0 e0
   have HO:=zl4 ho hk hs hb
   clear ho hk hs hb hc
   have E:=paint10 HO.o.1 hlt HO.o.2.1 HO.o.2.2.1 (HG'.o g rfl) HO.o.2.2.2 hgb
   have HE:Hid (∃zs',(zjf wr g (i * 10) L).ownsRow base 42 10 (.slice (some ⟨g,0,none⟩) n c) n zs'/\(∀k,k<(i+1) * 10->zs'[k]?=some (zg8 L k))/\zaj base own (fun x=>x≠(3,L)) w1 own (zjf wr g (i * 10) L)/\Below base w1 (zjf wr g (i * 10) L)):=by
    obtain ⟨zs',q1,q2,q3,q4,_⟩:=E
    exact⟨zs',q1,q2,q3,q4⟩
   clear E HO
   go_wp2_with fail
   go_roundw
   case rel=>
    obtain ⟨zs',q1,q2,q3,q4⟩:=HE.o
    exact⟨i+1,zs',by omega,by go_num,q1,q2,q3,q4⟩
   case measure=>simp only[intOf];omega
  .have hi':i=n:=by omega
   subst hi'
   have hkb:KB base B (3,L) 42 10 (zg8 L) L many last many ms em xs w own own wr f xs i (.slice a i c) []:=by
    have hst:zaj base own (fun t=>t≠(0,0)/\t≠(3,L)) w own wr:=(HS1.o.mono fun _ h=>h.1).trans (hs.mono fun _ h=>h.2)
    refine⟨HJ1.o.stays hs (by simp) (by simp),HW.o.lb.stays hst (by simp),HW.o.le.stays hst (fun m hm=>⟨by simp,HTN.o.h3 m hm⟩),HW.o.li.stays hst (by simp),HW.o.ll.stays hst (by simp),HW.o.lo.stays hst (by simp),?_,HG'.o,by simp,HB1.o.trans hb,hst.mono (by rintro ⟨q1,q2⟩ q;unfold MT at q;simp only[ne_eq,Prod.mk.injEq];omega)⟩
    rw[←zfk ho.1 hk]
    exact ho
   have HKB:=zl hkb
   clear hkb ho hk hs hb
   obtain ⟨wa,hwa⟩:=xq wr
   subst hwa
   go_wp2_with fail
   go_loopw [1,6,7] (fun l t _ wr=> ∃(k:Nat) (own':Nat->Nat×Int) (f':Nat->Value) (xs':Nat->List Value) (ns:List Value),k<=4/\t= .int .i64 k/\KB base B (3,L) 42 10 (zg8 L) L many last many ms em xs w own own' wr f' xs' (i+k) l ns/\ns.length=k/\xs' 5=xs 5++ns/\xs' 6=xs 6++List.replicate k (.int .i64 L)/\ ∀q,q≠5->q≠6->xs' q=xs q) (fun _ t _ _=>4-(intOf t).toNat)
   case atStart=>exact⟨0,own,f,xs,[],by decide,rfl,HKB.o,rfl,by simp,by simp,fun _ _ _=>rfl⟩
   case round=>
    obtain ⟨k,own',f',xs',ns,hk,rfl,hK,hn1,hx1,hx2,hxo⟩:=hrel
    have HK:=zl hK
    have HXX:=zl4 hn1 hx1 hx2 hxo
    by_cases hlt:k<4
    .have hroom:=hK.room
     have c1:=hK.wj.cell 5 (by decide)
     have r1:=hK.wj.rows 5 (by simp[zb2])
     have h67:(xs' 5).length+1<=1073741824:=by have:=H1.o;rw[hx1,List.length_append,hn1];omega
     obtain ⟨a1,k1,e1⟩:=zar r1
     have F1:=zl e1
     rw[e1] at c1 r1
     have R1:=zl r1
     obtain ⟨al,cl,rfl⟩:=zar hK.lo
     clear hK hn1 hx1 hx2 hxo r1 e1
     go_wp2_with (at_builtin;go_must (refine za7 base 1 24 (xs' 5).length _ (xs' 5) _ R1.out hroom Tryz.infoEvents rfl (by decide) rfl ?c2 ?c3 (by decide) _ _ 28 Tryz.underlying28 rfl rfl rfl rfl ?_))
     case c2=>simp[Value.oneCell']
     case c3=>exact h67
     intro v1 w2 hG
     obtain ⟨b1,j1,rfl⟩:=zar hG.own
     have HG2:Hid (Grew base (ty 5) 1 wr (f' 5) w2 (.slice b1 ((xs' 5).length+1) j1) ((xs' 5).length+1) (xs' 5++[.slice al (i+k) cl])):=by rw[F1.out];exact hG
     clear hG c1
     obtain ⟨hc,hz,_⟩:=HK.o.wj.grew 5 (by simp[zb2]) HG2.o
     have HK3:=zl ((HK.o.row HTN.o 5 (by simp[zb2]) HG2.o).mem (by omega))
     have c1:w2.cell? ⟨B,5,none⟩=some (f' 5):=(hc 5).trans (HK.o.wj.cell 5 (by decide))
     have z1:=hz 5
     have c6:w2.cell? ⟨B,6,none⟩=some (f' 6):=(hc 6).trans (HK.o.wj.cell 6 (by decide))
     clear hc hz HG2 R1 F1
     obtain ⟨o3,ho3⟩:=xq (za9 own' wr (.slice b1 ((xs' 5).length+1) j1) (1,((5:Nat):Int)))
     obtain ⟨f3,hf3⟩:=xq ((fun q=>if q=5 then .slice b1 ((xs' 5).length+1) j1 else f' q))
     obtain ⟨x3,hx3⟩:=xq ((fun q=>if q=5 then xs' 5++[.slice al (i+k) cl] else xs' q))
     rw[←ho3,←hf3,←hx3] at HK3
     have HX3:Hid (x3 5=xs 5++(ns++[.slice al (i+k) cl])/\x3 6=xs 6++List.replicate k (.int .i64 L)/\ ∀q,q≠5->q≠6->x3 q=xs q):=by
      obtain ⟨q1,q2,q3,q4⟩:=HXX.o
      rw[hx3]
      exact⟨by simp[q2],by simpa using q3,fun q h1 h2=>by simp[h1,q4 q h1 h2]⟩
     have hf6:f' 6=f3 6:=by rw[hf3];rfl
     rw[hf6] at c6
     clear hx3 hf3 ho3 HK hf6
     have hroom3:=HK3.o.room
     have r2:=HK3.o.wj.rows 6 (by simp[zb2])
     have h67':(x3 6).length+1<=1073741824:=by
      have:=H1.o
      have h2:=HW.o.l6
      rw[HX3.o.2.1,HW.o.x6,List.length_append,List.length_map,List.length_replicate,h2]
      omega
     obtain ⟨a2,k2,e2⟩:=zar r2
     have F2:=zl e2
     rw[e2] at r2 c6
     have R2:=zl r2
     clear e2 r2
     go_wp2_with (at_builtin;go_must (refine push_at _ (zjq w2 _ _) base 1 8 (x3 6).length _ (x3 6) _ R2.out hroom3 Tryz.infoInt rfl (by decide) rfl ?c2 ?c3 (by decide) _ _ 26 Tryz.underlying26 rfl rfl rfl rfl ?_))
     case c2=>simp[Value.oneCell']
     case c3=>exact h67'
     intro v4 w4 hG4
     obtain ⟨w3,hw3⟩:=xq (w2.setCell ⟨B,5,none⟩ (.slice b1 ((xs' 5).length+1) j1))
     rw[←hw3] at hG4 HK3
     obtain ⟨b2,j2,rfl⟩:=zar hG4.own
     have HG4:Hid (Grew base (ty 6) 1 w3 (f3 6) w4 (.slice b2 ((x3 6).length+1) j2) ((x3 6).length+1) (x3 6++[.int .i64 L])):=by rw[F2.out];exact hG4
     obtain ⟨hc,hz,_⟩:=HK3.o.wj.grew 6 (by simp[zb2]) HG4.o
     have c4:w4.cell? ⟨B,6,none⟩=some (f3 6):=(hc 6).trans (HK3.o.wj.cell 6 (by decide))
     have z4:=hz 6
     have HK5:=HK3.o.row HTN.o 6 (by simp[zb2]) HG4.o
     clear hc hz hG4 HG4 c1 z1 c6 hroom3 h67' R2 F2 HK3 h67 hroom hw3
     obtain ⟨o5,ho5⟩:=xq (za9 o3 w3 (.slice b2 ((x3 6).length+1) j2) (1,((6:Nat):Int)))
     obtain ⟨f5,hf5⟩:=xq ((fun q=>if q=6 then .slice b2 ((x3 6).length+1) j2 else f3 q))
     obtain ⟨x5,hx5⟩:=xq ((fun q=>if q=6 then x3 6++[.int .i64 L] else x3 q))
     rw[←ho5,←hf5,←hx5] at HK5
     have HX5:Hid (x5 5=xs 5++(ns++[.slice al (i+k) cl])/\x5 6=xs 6++List.replicate (k+1) (.int .i64 L)/\ ∀q,q≠5->q≠6->x5 q=xs q):=by
      obtain ⟨q1,q2,q3⟩:=HX3.o
      rw[hx5]
      exact⟨by simpa using q1,by simp[q2,List.replicate_succ'],fun q h1 h2=>by simp[h2,q3 q h1 h2]⟩
     have HKK5:=zl HK5
     clear hx5 hf5 ho5 HX3
     have hroom5:=HK5.room
     have HL5:=zl (HK5.lo)
     clear HK5
     go_wp2_with (at_builtin;go_must (refine zi3 _ (zjq w4 _ _) base 10 80 (i+k) _ _ _ HL5.o hroom5 Tryz.infoEvent rfl (by decide) rfl ?c2 ?c3 (by decide) _ _ 32 Tryz.underlying32 rfl rfl rfl rfl ?_))
     case c2=>simp[Value.oneCell']
     case c3=>omega
     intro v6 w6 hG6 hA6
     have HK6:Hid (KB base B (3,L) 42 10 (zg8 L) L many last many ms em xs w own (za9 o5 (w4.setCell ⟨B,6,none⟩ (.slice b2 ((x3 6).length+1) j2)) v6 (3,L)) w6 f5 x5 (i+k+1) v6 (ns++[.slice al (i+k) cl])):=by
      refine HKK5.o.grow HTN.o (by simp[MT]) (hG6.cast rfl ?_) hA6
      refine zfk (by simp[za4];omega) fun q hq=>?_
      by_cases hlt':q<(i+k) * 10
      .rw[List.getElem?_append_left (by rw[za4];exact hlt'),zdb _ _ _ hlt']
      .rw[List.getElem?_append_right (by rw[za4];omega),za4]
       obtain ⟨j,rfl⟩: ∃j,q=(i+k) * 10+j:=⟨q-(i+k) * 10,by omega⟩
       have hj:j<10:=by omega
       have hkc:zg8 L ((i+k) * 10+j)= .int .i64 (kev L j):=by unfold zg8;rw[show ((i+k) * 10+j)%10=j by omega]
       rw[hkc,Nat.add_sub_cancel_left]
       rcases (show j=0\/j=1\/j=2\/j=3\/j=4\/j=5\/j=6\/j=7\/j=8\/j=9 by omega) with rfl|rfl|rfl|rfl|rfl|rfl|rfl|rfl|rfl|rfl<;>rfl
     clear hG6 hA6 HKK5 HL5 c4 z4
     go_wp2_with fail
     go_roundw
     case rel=>exact⟨k+1,_,f5,x5,_,by omega,by go_num,HK6.o,by simp[HXX.o.1],HX5.o⟩
     case measure=>simp only[intOf];omega
    .have hk':k=4:=by omega
     subst hk'
     have hfin:Hid (R (.returned (.tuple #[])) wr):=by
      refine HR.o own' f' xs' _ wr (KB.events HW.o H1.o (by have:=HM.o;omega) (by rw[←HM.o];exact hK) hxo hx1 (by rw[←HM.o];exact hx2) hn1) hxo ?_ hK.hb hK.st
      rw[hx1,List.length_append,hn1]
     clear hK hn1 hx1 hx2 hxo HK HXX
     go_wp2_with fail
     go_end0
     exact hfin.o
end
section
theorem zkv {Z base B:Nat}{own:Nat->Nat×Int}{w:World}{f:Nat->Value}{xs:Nat->List Value}{ms:List Nat}{em:List Int}{last:Int}{many:Nat}{R:EW}{n:Nat}{v:Value}{ys:List Value}
  (hW:WK Z base B own w f xs ms em last many)(h1:(xs 1).length+4<=4 * Z)(hm:many+1<=Z)(hn:n<=67108860)(hl:w.ownsRow base 5 1 v n ys)(hg: ∀g,v.ownBlock=some g->own g=(2,((many+1:Nat):Int)))
  (hR: ∀own' f' xs' ms' w',WK Z base B own' w' f' xs' ms' em last (many+1)->(∀i,i≠1->i≠2->xs' i=xs i)->(xs' 1).length=(xs 1).length+4->Below base w w'->zaj base own MT w own' w'->R (.returned (.tuple #[])) w'):
  Calls Tryz.prog 73 #[.pointer (some ⟨B,0,none⟩),v] w R:=by
 have HR:=zl hR
 have HW:=zl hW
 obtain ⟨a,c,rfl⟩:=zar hl
 have HL:Hid (w.ownsRow base 5 1 (.slice a n c) n ys):=hl
 have HG:Hid (∀g,(Value.slice a n c).ownBlock=some g->own g=(2,((many+1:Nat):Int))):=hg
 have H1:=zl h1
 have hZ:=hW.hZ
 have c10:w.cell? ⟨B,10,none⟩=some (.int .i64 (many:Nat)):=by rw[cell_of_row w B 10 _ _ (0,0) hW.wj.blk];rfl
 have z10:=hW.wj.free 10
 clear hR hW hl hg h1
 go_enter Tryz.func73,Tryz.ntmps73
 go_wp2_with fail
 rw[show ((many:Int)+1)=((many+1:Nat):Int) by omega]
 obtain ⟨M,hM⟩:=xq (many+1)
 obtain ⟨hj1,hs1⟩:=HW.o.wj.setMany (many+1)
 have hbB:base<=B:=HW.o.wj.hB
 have hb1:Below base w (w.setCell ⟨B,10,none⟩ (.int .i64 ((many+1:Nat):Int))):=(Below.refl base w).setCell hbB _
 rw[←hM] at hj1 hs1 hb1 ⊢
 have HM:=zl hM
 have hTN:TagNew (2,(M:Int)) last many:=⟨by simp,by simp,by intro m hm q;simp only[Prod.mk.injEq,true_and] at q;omega,by simp,by simp,by simp,by simp⟩
 have HTN:=zl hTN
 have HG':Hid (∀g,(Value.slice a n c).ownBlock=some g->own g=(2,(M:Int))):=by rw[hM];exact HG.o
 obtain ⟨w1,hw1⟩:=xq (w.setCell ⟨B,10,none⟩ (.int .i64 (M:Int)))
 rw[←hw1] at hj1 hs1 hb1 ⊢
 obtain ⟨hl1,ht1⟩:=zaq HL.o HG'.o hs1 (by simp)
 have HJ1:=zl hj1
 have HS1:=zl hs1
 have HB1:=zl hb1
 have HL1:=zl hl1
 refine zk3 M 0 _ _ (by omega) (by decide) ?_
 obtain ⟨x,hx⟩:=xq (dg M 0)
 rw[←hx]
 have HX:=zl hx
 clear hx hl1 ht1 hj1 hs1 hb1 hw1 hM hTN c10 z10
 go_wp2_with fail
 go_loopw [5] (fun t wr=> ∃(i:Nat) (zs:List Value),i<=n/\t= .int .i64 i/\wr.ownsRow base 5 1 (.slice a n c) n zs/\(∀k,k<i->zs[k]?=some (.int .u8 (x:Nat)))/\zaj base own (fun t=>t≠(2,(M:Int))) w1 own wr/\Below base w1 wr) (fun t _=>n-(intOf t).toNat)
 case atStart=>exact⟨0,_,Nat.zero_le _,rfl,HL1.o,fun k hk=>absurd hk (by omega),⟨nr,fun _ _=>rfl,fun _ _ _ _=>rfl⟩,br⟩
 case round=>
  obtain ⟨i,zs,hi,rfl,ho,hk,hs,hb⟩:=hrel
  by_cases hlt:i<n
  .have hyl:zs.length=n:=by have:=ho.1;omega
   obtain ⟨g,cap,q1,hgb,_,_,hc,hf⟩:=zan ho i _ (List.getElem?_eq_getElem (by omega))
   simp only[Value.slice.injEq] at q1
   obtain ⟨rfl,_⟩:=q1
   have E:Hid ((wr.setCell ⟨g,i,none⟩ (.int .u8 (x:Nat))).ownsRow base 5 1 (.slice (some ⟨g,0,none⟩) n c) n (zs.set i (.int .u8 (x:Nat)))/\(∀k,k<i+1->(zs.set i (.int .u8 (x:Nat)))[k]?=some (.int .u8 (x:Nat)))/\zaj base own (fun t=>t≠(2,(M:Int))) w1 own (wr.setCell ⟨g,i,none⟩ (.int .u8 (x:Nat)))/\Below base w1 (wr.setCell ⟨g,i,none⟩ (.int .u8 (x:Nat)))):=by
    refine⟨zcs ho g i _ rfl,?_,hs.trans (zaj.set.mono (by intro t ht;rw[HG'.o g rfl];exact ht)),hb.setCell hgb _⟩
    intro k hk'
    by_cases he:k=i
    .subst he
     simp[hyl,hlt]
    .rw[List.getElem?_set_ne (by omega)]
     exact hk k (by omega)
   clear ho hk hs hb
   go_wp2_with fail
   go_roundw
   case rel=>exact⟨i+1,_,by omega,by go_num,E.out⟩
   case measure=>simp only[intOf];omega
  .have hi':i=n:=by omega
   subst hi'
   have hkb:KB base B (2,(M:Int)) 5 1 (fun _=> .int .u8 (x:Nat)) last M last many ms em xs w own own wr f xs i (.slice a i c) []:=by
    have hst:zaj base own (fun t=>t≠(0,0)/\t≠(2,(M:Int))) w own wr:=(HS1.o.mono fun _ h=>h.1).trans (hs.mono fun _ h=>h.2)
    refine⟨HJ1.o.stays hs (by simp) (by simp),HW.o.lb.stays hst (fun m hm=>⟨by simp,HTN.o.h2 m hm⟩),HW.o.le.stays hst (by simp),HW.o.li.stays hst (by simp),HW.o.ll.stays hst (by simp),HW.o.lo.stays hst (by simp),?_,HG'.o,by simp,HB1.o.trans hb,hst.mono (by rintro ⟨q1,q2⟩ q;unfold MT at q;simp only[ne_eq,Prod.mk.injEq];omega)⟩
    rw[←zfk (by have:=ho.1;omega) (by rw[Nat.mul_one];exact hk)]
    exact ho
   have HKB:=zl hkb
   clear hkb ho hk hs hb
   obtain ⟨wa,hwa⟩:=xq wr
   subst hwa
   go_wp2_with fail
   go_loopw [1,6,7] (fun l t _ wr=> ∃(k:Nat) (own':Nat->Nat×Int) (f':Nat->Value) (xs':Nat->List Value) (ns:List Value),k<=4/\t= .int .i64 k/\KB base B (2,(M:Int)) 5 1 (fun _=> .int .u8 (x:Nat)) last M last many ms em xs w own own' wr f' xs' (i+k) l ns/\ns.length=k/\xs' 1=xs 1++ns/\xs' 2=xs 2++List.replicate k (.int .i64 (M:Int))/\ ∀q,q≠1->q≠2->xs' q=xs q) (fun _ t _ _=>4-(intOf t).toNat)
   case atStart=>exact⟨0,own,f,xs,[],by decide,rfl,HKB.o,rfl,by simp,by simp,fun _ _ _=>rfl⟩
   case round=>
    obtain ⟨k,own',f',xs',ns,hk,rfl,hK,hn1,hx1,hx2,hxo⟩:=hrel
    have HK:=zl hK
    have HXX:=zl4 hn1 hx1 hx2 hxo
    by_cases hlt:k<4
    .have hroom:=hK.room
     have c1:=hK.wj.cell 1 (by decide)
     have r1:=hK.wj.rows 1 (by simp[zb2])
     have h67:(xs' 1).length+1<=1073741824:=by have:=H1.o;rw[hx1,List.length_append,hn1];omega
     obtain ⟨a1,k1,e1⟩:=zar r1
     have F1:=zl e1
     rw[e1] at c1 r1
     have R1:=zl r1
     obtain ⟨al,cl,rfl⟩:=zar hK.lo
     clear hK hn1 hx1 hx2 hxo r1 e1
     go_wp2_with (at_builtin;go_must (refine za7 base 1 24 (xs' 1).length _ (xs' 1) _ R1.out hroom Tryz.infoBytes rfl (by decide) rfl ?c2 ?c3 (by decide) _ _ 25 Tryz.underlying25 rfl rfl rfl rfl ?_))
     case c2=>simp[Value.oneCell']
     case c3=>exact h67
     intro v1 w2 hG
     obtain ⟨b1,j1,rfl⟩:=zar hG.own
     have HG2:Hid (Grew base (ty 1) 1 wr (f' 1) w2 (.slice b1 ((xs' 1).length+1) j1) ((xs' 1).length+1) (xs' 1++[.slice al (i+k) cl])):=by rw[F1.out];exact hG
     clear hG c1
     obtain ⟨hc,hz,_⟩:=HK.o.wj.grew 1 (by simp[zb2]) HG2.o
     have c1:w2.cell? ⟨B,1,none⟩=some (f' 1):=(hc 1).trans (HK.o.wj.cell 1 (by decide))
     have z1:=hz 1
     clear hc hz
     go_wp2_with fail
     have HK3:=zl ((HK.o.row HTN.o 1 (by simp[zb2]) HG2.o).mem (by omega))
     clear c1 z1 HG2 R1 F1
     obtain ⟨o3,ho3⟩:=xq (za9 own' wr (.slice b1 ((xs' 1).length+1) j1) (1,((1:Nat):Int)))
     obtain ⟨f3,hf3⟩:=xq ((fun q=>if q=1 then .slice b1 ((xs' 1).length+1) j1 else f' q))
     obtain ⟨x3,hx3⟩:=xq ((fun q=>if q=1 then xs' 1++[.slice al (i+k) cl] else xs' q))
     obtain ⟨w3,hw3⟩:=xq (w2.setCell ⟨B,1,none⟩ (.slice b1 ((xs' 1).length+1) j1))
     rw[←ho3,←hf3,←hx3,←hw3] at HK3
     rw[←hw3]
     have HX3:Hid (x3 1=xs 1++(ns++[.slice al (i+k) cl])/\x3 2=xs 2++List.replicate k (.int .i64 (M:Int))/\ ∀q,q≠1->q≠2->x3 q=xs q):=by
      obtain ⟨q1,q2,q3,q4⟩:=HXX.o
      rw[hx3]
      exact⟨by simp[q2],by simpa using q3,fun q h1 h2=>by simp[h1,q4 q h1 h2]⟩
     clear hw3 hx3 hf3 ho3 HK
     have hroom3:=HK3.o.room
     have c2:=HK3.o.wj.cell 2 (by decide)
     have c10:w3.cell? ⟨B,10,none⟩=some (.int .i64 (M:Int)):=by rw[cell_of_row w3 B 10 _ _ (0,0) HK3.o.wj.blk];rfl
     have hB3:B<w3.heap.size:=zak HK3.o.wj.blk
     have r2:=HK3.o.wj.rows 2 (by simp[zb2])
     have h67':(x3 2).length+1<=1073741824:=by
      have:=H1.o
      have h2:=HW.o.l2
      rw[HX3.o.2.1,HW.o.x2,List.length_append,List.length_map,List.length_replicate,h2]
      omega
     obtain ⟨a2,k2,e2⟩:=zar r2
     have F2:=zl e2
     rw[e2] at c2 r2
     have R2:=zl r2
     clear e2 r2
     have KEY: ∀v4 w4,Grew base 3 1 w3.drew (.slice a2 (x3 2).length k2) w4 v4 ((x3 2).length+1) (x3 2++[.int .i64 (M:Int)])-> ∃b2 j2,v4= .slice b2 ((x3 2).length+1) j2/\Hid (Grew base (ty 2) 1 w3 (f3 2) w4 (.slice b2 ((x3 2).length+1) j2) ((x3 2).length+1) (x3 2++[.int .i64 (M:Int)]))/\w4.cell? ⟨B,2,none⟩=some (f3 2)/\w4.frozen? ⟨B,2,none⟩=false:=by
      intro v4 w4 hG
      obtain ⟨b2,j2,rfl⟩:=zar hG.own
      have hG':Grew base (ty 2) 1 w3 (f3 2) w4 (.slice b2 ((x3 2).length+1) j2) ((x3 2).length+1) (x3 2++[.int .i64 (M:Int)]):=by rw[F2.out];exact hG.undrew
      obtain ⟨hc,hz,_⟩:=HK3.o.wj.grew 2 (by simp[zb2]) hG'
      exact⟨b2,j2,rfl,hG',(hc 2).trans (HK3.o.wj.cell 2 (by decide)),hz 2⟩
     go_region_law (refine zf7 base 1 8 (x3 2).length _ (x3 2) _ (World.ownsRow.drew R2.out) hroom3 Tryz.infoInt rfl (by decide) rfl (by simp[Value.oneCell']) h67' (by decide) _ _ 26 Tryz.underlying26 rfl rfl rfl rfl ?_;intro v4 w4 hG4;obtain ⟨b2,j2,rfl,HG4,c4,z4⟩:=KEY v4 w4 hG4;clear hG4)
     all_goals
      have HK5:=HK3.o.row HTN.o 2 (by simp[zb2]) HG4.o
      clear c4 z4 HG4 c2 c10 hroom3 hB3 h67' KEY R2 F2 HK3 h67 hroom
      obtain ⟨o5,ho5⟩:=xq (za9 o3 w3 (.slice b2 ((x3 2).length+1) j2) (1,((2:Nat):Int)))
      obtain ⟨f5,hf5⟩:=xq ((fun q=>if q=2 then .slice b2 ((x3 2).length+1) j2 else f3 q))
      obtain ⟨x5,hx5⟩:=xq ((fun q=>if q=2 then x3 2++[.int .i64 (M:Int)] else x3 q))
      obtain ⟨w5,hw5⟩:=xq (w4.setCell ⟨B,2,none⟩ (.slice b2 ((x3 2).length+1) j2))
      rw[←ho5,←hf5,←hx5,←hw5] at HK5
      rw[←hw5]
      have HX5:Hid (x5 1=xs 1++(ns++[.slice al (i+k) cl])/\x5 2=xs 2++List.replicate (k+1) (.int .i64 (M:Int))/\ ∀q,q≠1->q≠2->x5 q=xs q):=by
       obtain ⟨q1,q2,q3⟩:=HX3.o
       rw[hx5]
       exact⟨by simpa using q1,by simp[q2,List.replicate_succ'],fun q h1 h2=>by simp[h2,q3 q h1 h2]⟩
      have HKK5:=zl HK5
      clear hw5 hx5 hf5 ho5 HX3
      have hroom5:=HK5.room
      have hl5:=HK5.lo
      rw[Nat.mul_one] at hl5
      have HL5:=zl hl5
      clear HK5 hl5
      go_wp2_with (at_builtin;go_must (refine push_kept base 1 1 (i+k) _ _ _ HL5.o hroom5 Tryz.infoU8 rfl (by decide) rfl ?c2 ?c3 (by decide) _ _ 31 Tryz.underlying31 rfl rfl rfl rfl ?_))
      case c2=>simp[Value.oneCell']
      case c3=>omega
      intro v6 w6 hG6 hA6
      have HK6:Hid (KB base B (2,(M:Int)) 5 1 (fun _=> .int .u8 (x:Nat)) last M last many ms em xs w own (za9 o5 w5 v6 (2,(M:Int))) w6 f5 x5 (i+k+1) v6 (ns++[.slice al (i+k) cl])):=by
       refine HKK5.o.grow HTN.o (by simp[MT]) (hG6.cast rfl ?_) hA6
       rw[Nat.mul_one]
       refine zfk (by simp[za4]) fun q hq=>?_
       by_cases hlt':q<i+k
       .rw[List.getElem?_append_left (by rw[za4];exact hlt'),zdb _ _ _ hlt']
       .rw[List.getElem?_append_right (by rw[za4];omega),za4,show q-(i+k)=0 by omega]
        rfl
      clear hG6 hA6 HKK5 HL5
      go_wp2_with fail
      go_roundw
      case rel=>exact⟨k+1,_,f5,x5,_,by omega,by go_num,HK6.o,by simp[HXX.o.1],HX5.o⟩
      case measure=>simp only[intOf];omega
    .have hk':k=4:=by omega
     subst hk'
     have hfin:Hid (R (.returned (.tuple #[])) wr):=by
      refine HR.o own' f' xs' _ wr (KB.bytes HW.o H1.o (by have:=HM.o;omega) (by rw[←HM.o,←HX.o];exact hK) hxo hx1 (by rw[←HM.o];exact hx2) hn1) hxo ?_ hK.hb hK.st
      rw[hx1,List.length_append,hn1]
     clear hK hn1 hx1 hx2 hxo HK HXX
     go_wp2_with fail
     go_end0
     exact hfin.o
end
section
def DRes (X:Nat->Int) (N n:Nat) (e:Int) (p:Nat):Prop:=
 ∃i,(∀q,q<i->good X N q)/\((pos X i<N/\isK (X (pos X i))=false/\n=0/\e=3/\p=pos X i)\/(pos X i<N/\isK (X (pos X i))=true/\N<pos X i+elen (X (pos X i))/\n=0/\e=2/\p=pos X i)\/(pos X i=N/\n=i/\e=0/\p=0))
variable {e e':Int} {N n p p':Nat} {X:Nat->Int}
theorem DRes.unique {n':Nat}(h:DRes X N n e p)(h':DRes X N n' e' p'):n=n'/\e=e'/\p=p':=by
 obtain ⟨i,hi,h⟩:=h
 obtain ⟨j,hj,h'⟩:=h'
 have hni: ¬good X N i:=by
  rintro ⟨g1,g2,g3⟩
  rcases h with h|h|h
  .rw[h.2.1] at g2;cases g2
  .omega
  .omega
 have hnj: ¬good X N j:=by
  rintro ⟨g1,g2,g3⟩
  rcases h' with h'|h'|h'
  .rw[h'.2.1] at g2;cases g2
  .omega
  .omega
 obtain rfl:=first_unique X N i j hi hj hni hnj
 rcases h with ⟨a1,a2,rfl,rfl,rfl⟩|⟨a1,a2,a3,rfl,rfl,rfl⟩|⟨a1,rfl,rfl,rfl⟩<;>rcases h' with ⟨b1,b2,rfl,rfl,rfl⟩|⟨b1,b2,b3,rfl,rfl,rfl⟩|⟨b1,rfl,rfl,rfl⟩
 all_goals first|exact⟨rfl,rfl,rfl⟩|(rw[a2] at b2;cases b2)|omega
theorem DRes.le (h:DRes X N n e p):n<=N:=by
 obtain ⟨i,hi,h⟩:=h
 have:=pos_ge X N i hi
 rcases h with h|h|h<;>omega
theorem dcells_nil (X:Nat->Int):zbp X 0=[]:=rfl
theorem zio (X:Nat->Int)(n:Nat):(zbp X n).length=n * 10:=by
 induction n with
 |zero=>rfl
 |succ n ih=>rw[zck,List.length_append,ih];simp;omega
theorem zgq (X:Nat->Int)(n k j:Nat)(hk:k<n)(hj:j<10):(zbp X n)[k * 10+j]?=some (iv (dev X (pos X k) j)):=by
 induction n with
 |zero=>omega
 |succ n ih=>
  rw[zck]
  by_cases h:k<n
  .rw[List.getElem?_append_left (by rw[zio];omega)]
   exact ih h
  .obtain rfl:k=n:=by omega
   rw[List.getElem?_append_right (by rw[zio];omega),zio,Nat.add_sub_cancel_left]
   simp[hj]
theorem Decode_res (a:Option Addr)(N c:Nat)(X:Nat->Int)(w:World)(R:EW)(hL:zcq w)(hN:N<=1048576)(hcap:N<=c)(hx:BsAt w a N X)(hb: ∀i,i<N->0<=X i/\X i<=255)
  (hR: ∀n e p v w',DRes X N n e p->Below w.heap.size w w'->w'.ownsRow w.heap.size 42 10 v n (zbp X n)->R (.returned (.tuple #[v,.int .i64 e,.int .i64 (p:Nat)])) w'):
  Calls Tryz.prog 19 #[.slice a N c] w R:=by
 refine Decode_any a N c X w R hL (by omega) hcap hx hb ?_ ?_ ?_
 .intro i w' h1 h2 h3 h4
  exact hR 0 3 (pos X i) _ w' ⟨i,h1,.inl ⟨h2,h3,rfl,rfl,rfl⟩⟩ h4 (World.ownsRow_nil _ _ _ _)
 .intro i w' h1 h2 h3 h4 h5
  exact hR 0 2 (pos X i) _ w' ⟨i,h1,.inr (.inl ⟨h2,h3,h4,rfl,rfl,rfl⟩)⟩ h5 (World.ownsRow_nil _ _ _ _)
 .intro i v w' h1 h2 h3 h4
  exact hR i 0 0 v w' ⟨i,h1,.inr (.inr ⟨h2,rfl,rfl,rfl⟩)⟩ h3 h4
theorem refDecode_res (a:Option Addr)(N c:Nat)(X:Nat->Int)(w:World)(R:EW)(hN:N<=1048576)(hx:BsAt w a N X)(hb: ∀i,i<N->0<=X i/\X i<=255)
  (hR: ∀n e p v w',DRes X N n e p->Below w.heap.size w w'->w'.ownsRow w.heap.size 42 10 v n (zbp X n)->R (.returned (.tuple #[v,.int .i64 e,.int .i64 (p:Nat)])) w'):
  Calls Tryz.prog 76 #[.slice a N c] w R:=by
 refine refDecode_any a N c X w R hN hx hb ?_ ?_ ?_
 .intro i w' h1 h2 h3 h4
  exact hR 0 3 (pos X i) _ w' ⟨i,h1,.inl ⟨h2,h3,rfl,rfl,rfl⟩⟩ h4 (World.ownsRow_nil _ _ _ _)
 .intro i w' h1 h2 h3 h4 h5
  exact hR 0 2 (pos X i) _ w' ⟨i,h1,.inr (.inl ⟨h2,h3,h4,rfl,rfl,rfl⟩)⟩ h5 (World.ownsRow_nil _ _ _ _)
 .intro i v w' h1 h2 h3 h4
  exact hR i 0 0 v w' ⟨i,h1,.inr (.inr ⟨h2,rfl,rfl,rfl⟩)⟩ h3 h4
def ERes (es:Nat->Nat->Int) (n:Nat) (L:List Int) (e:Int) (p:Nat):Prop:=
 (∃i,i<n/\(∀q,q<i->fits (es q)=true)/\fits (es i)=false/\L=[]/\e=3/\p=i)\/((∀q,q<n->fits (es q)=true)/\L=za6 es n/\e=0/\p=0)
variable {L:List Int} {es:Nat->Nat->Int}
theorem ERes.unique {L':List Int}(h:ERes es n L e p)(h':ERes es n L' e' p'):L=L'/\e=e'/\p=p':=by
 rcases h with ⟨i,a1,a2,a3,rfl,rfl,rfl⟩|⟨a1,rfl,rfl,rfl⟩<;>rcases h' with ⟨j,b1,b2,b3,rfl,rfl,rfl⟩|⟨b1,rfl,rfl,rfl⟩
 .refine⟨rfl,rfl,?_⟩
  rcases Nat.lt_trichotomy p p' with h|h|h
  .rw[b2 p h] at a3;cases a3
  .exact h
  .rw[a2 p' h] at b3;cases b3
 .rw[b1 p a1] at a3;cases a3
 .rw[a1 p' b1] at b3;cases b3
 .exact⟨rfl,rfl,rfl⟩
theorem ERes.len (h:ERes es n L e p):L.length<=40 * n:=by
 rcases h with ⟨_,_,_,_,rfl,_⟩|⟨_,rfl,_⟩
 .simp
 .exact zge es n
theorem Encode_res (a:Option Addr)(n c:Nat)(es:Nat->Nat->Int)(w:World)(R:EW)(hL:zcq w)(hn:n<=1048576)(hes:ze1 w a n es)
  (hr: ∀i j,-9223372036854775808<=es i j/\es i j<=9223372036854775807)
  (hR: ∀L e p v w',ERes es n L e p->Below w.heap.size w w'->w'.ownsRow w.heap.size 5 1 v L.length (L.map bv)->R (.returned (.tuple #[v,.int .i64 e,.int .i64 (p:Nat)])) w'):
  Calls Tryz.prog 15 #[.slice a n c] w R:=by
 refine Encode_any a n c es w R hL hn hes hr ?_ ?_
 .intro i w' h1 h2 h3 h4
  exact hR [] 3 i _ w' (.inl ⟨i,h1,h2,h3,rfl,rfl,rfl⟩) h4 (World.ownsRow_nil _ _ _ _)
 .intro v w' h1 h2 h3
  exact hR _ 0 0 v w' (.inr ⟨h1,rfl,rfl,rfl⟩) h2 h3
theorem refEncode_res (a:Option Addr)(n c:Nat)(es:Nat->Nat->Int)(w:World)(R:EW)(hn:n<=1048576)(hes:ze1 w a n es)
  (hR: ∀L e p v w',ERes es n L e p->Below w.heap.size w w'->w'.ownsRow w.heap.size 5 1 v L.length (L.map bv)->R (.returned (.tuple #[v,.int .i64 e,.int .i64 (p:Nat)])) w'):
  Calls Tryz.prog 70 #[.slice a n c] w R:=by
 refine zhl a n c es w R hn hes ?_ ?_
 .intro i w' h1 h2 h3 h4
  exact hR [] 3 i _ w' (.inl ⟨i,h1,h2,h3,rfl,rfl,rfl⟩) h4 (World.ownsRow_nil _ _ _ _)
 .intro v w' h1 h2 h3
  exact hR _ 0 0 v w' (.inr ⟨h1,rfl,rfl,rfl⟩) h2 h3
end
