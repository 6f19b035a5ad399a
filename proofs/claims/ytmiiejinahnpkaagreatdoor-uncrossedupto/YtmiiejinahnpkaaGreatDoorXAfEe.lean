import Derived.Deep.RegionLaw
import Derived.Test.YtmiiejinahnpkaaGreatDoorEd
set_option maxRecDepth 8000
namespace Go.Proofs.YtmiiejinahnpkaaGreatDoor
open Go.RowKit
section
variable {B n size:Nat} {e:TypeId} {v:Value} {w:World}
theorem zbb {j:Nat}{cur:Array Value}(h:w.heap[B]?=some (.cells cur e (0,0))):(w.setCell ⟨B,j,none⟩ v).heap[B]?=some (.cells (cur.setIfInBounds j v) e (0,0)):=by
 simp[World.setCell,Array.getElem?_modify,h]
variable {xs:List Value}
theorem own_at {w':World}(h:w.ownsRow B e size v n xs)(hb: ∀g,v.ownBlock=some g->w'.heap[g]?=w.heap[g]?):w'.ownsRow B e size v n xs:=by
 refine⟨h.1,?_⟩
 rcases h.2 with h2|⟨g,cap,cur,rfl,hbg,hg,r⟩
 .exact .inl h2
 .exact .inr ⟨g,cap,cur,rfl,hbg,by rw[hb g rfl];exact hg,r⟩
theorem zb1 (h:w.ownsRow B e size v n xs)(g k:Nat)(x:Value)(hg:v.ownBlock≠some g):(w.setCell ⟨g,k,none⟩ x).ownsRow B e size v n xs:=
 own_at h fun q hq=>bhs w ⟨g,k,none⟩ x q (fun e=>hg (by rw[hq,e]))
theorem zgw (h:w.ownsRow B e size v n xs)(g:Nat)(hg:v.ownBlock=some g):g<w.heap.size:=(h.lt g hg).2
theorem own_setR {base:Nat}(h:w.ownsRow base e size v n xs)(g k:Nat)(x:Value)(hg:v.ownBlock=some g):
  (w.setCell ⟨g,k,none⟩ x).ownsRow base e size v n (xs.set k x):=by
 refine⟨by rw[List.length_set];exact h.1,?_⟩
 rcases h.2 with ⟨rfl,_⟩|⟨g',cap,cur,rfl,hb,hgg,r1,r2,r3,r4⟩
 .simp[Value.ownBlock] at hg
 .simp[Value.ownBlock] at hg
  subst hg
  refine .inr ⟨g',cap,cur.setIfInBounds k x,rfl,hb,zbb hgg,r1,r2,by simpa using r3,?_⟩
  rw[Array.toList_setIfInBounds,←r4,List.take_set]
theorem Grew.undrewR {w1:World}{v':Value}(h:Grew B e size w.drew v w1 v' n xs):Grew B e size w v w1 v' n xs:=
 ⟨h.own,⟨h.grown.os,h.grown.tape,h.grown.output,h.grown.size,h.grown.block⟩,h.lies⟩
theorem zej {P:Program}{ops:Array Oper}{o:Oper}{a:Act}{K:Act->World->Prop}{Q:Exit->Act->World->Prop}{E:Prop}{W:World}{arr:Array Value}
  (B size bytes n:Nat)(v:Value)(xs:List Value)(z:Value)(hown:W.ownsRow B e size v n xs)(hB:B<=W.heap.size)
  (hinfo:(P.info? e).map (fun i=>(i.zero,i.size,i.bytes))=some (some z,size,bytes))(hzs:z.cells.size=size)(hsz:0<size)(harr:arr.size=size)
  (h1: ∀u∈arr.toList,u.oneCell'=true)(hn:n+1<=1073741824)(hby:bytes<=256)
  (s y:Operand)(t:TypeId)(ht:P.underlying t=some (.slice e))(hgd:o.guard=none)(ho:o.op= .call {callee:= .builtin .append,args:= #[s,y],argTypes:= #[t,t]})
  (hs:a.eval s=v)(hy:a.eval y= .slice (some ⟨W.heap.size,0,none⟩) 1 1)
  (h: ∀v' w',Grew B e size W v w' v' (n+1) (xs++arr.toList)->K (a.put o.dst v') w'):
  if Region.wanted o (yielded ops a.tmps)=true then Oper.wp P o a (W.alloc (.cells arr e)) K Q else E:=by
 obtain ⟨i0,hi,hz0,hz1,hz2⟩:=info_parts hinfo
 refine step_append_lies _ hgd s y t ho B e i0 z size bytes ht hi hz0 hz1 hz2 hzs hsz v n xs hs (hown.alloc _) ⟨W.heap.size,0,none⟩ 1 1 arr.toList hy (by simp[harr])
  (World.news_of_block (heap_alloc_new W _)) h1 (by decide) (by unfold maxLen;omega) ?_ (by simp;omega) (W.heap.size+1) (by simp) ?_
 .exact llt (Nat.mul_le_mul hn hby) (by decide)
 .intro g cap w1 hown1 hgrow hat _
  exact h _ _ (Grew.of_lies _ hown1 hgrow hat)
end
section
structure Tch (F:Nat->Prop) (w w':World):Prop where
 os:w'.os=w.os
 tape:w'.tape=w.tape
 output:w'.output=w.output
 size:w.heap.size<=w'.heap.size
 blk: ∀g,g<w.heap.size-> ¬F g->w'.heap[g]?=w.heap[g]?
variable {F:Nat->Prop} {w:World}
theorem Tch.of {w':World}(h:Below w.heap.size w w'):Tch F w w':=⟨h.os,h.tape,h.output,h.size,fun g hg _=>h.block g hg⟩
theorem Tch.refl (F:Nat->Prop)(w:World):Tch F w w:=⟨rfl,rfl,rfl,nr,fun _ _ _=>rfl⟩
theorem Tch.trans {a b c:World}(h:Tch F a b)(k:Tch F b c):Tch F a c:=
 ⟨k.os.trans h.os,k.tape.trans h.tape,k.output.trans h.output,llt h.size k.size,fun g hg hF=>(k.blk g (lll hg h.size) hF).trans (h.blk g hg hF)⟩
structure Ft (F:Nat->Prop) (N B:Nat) (vA vO:Value):Prop where
 up: ∀g,N<=g->F g
 b:F B
 a: ∀g,vA.ownBlock=some g->F g
 o: ∀g,vO.ownBlock=some g->F g
theorem Tryz.infoEventR:(Tryz.prog.info? 42).map (fun i=>(i.zero,i.size,i.bytes))=some (some (.agg #[.int .i64 0,.int .i64 0,.int .i64 0,.int .i64 0,.int .i64 0,.int .i64 0,.int .i64 0,.int .i64 0,.int .i64 0,.int .i64 0]),10,80):=by kernel_rfl
variable {c:Cf} {m:Mk} {B:Nat} {vA vO:Value}
theorem RM.free (h:RM w B c m vA vO)(i:Nat):w.frozen? ⟨B,i,none⟩=false:=by simp[World.frozen?,h.blk]
theorem RM.setSeq (h:RM w B c m vA vO)(s:Nat):RM (w.setCell ⟨B,9,none⟩ (.int .i64 (s:Nat))) B c {m with seq:=s} vA vO:=
 ⟨zbb h.blk,zb1 h.all B 9 _ h.sepA,zb1 h.out B 9 _ h.sepO,h.sepA,h.sepO,h.sep⟩
theorem evcs_snoc (l:List (Nat->Int))(e:Nat->Int):evcs (l++[e])=evcs l++evc e:=by simp[evcs]
theorem zk1 (l:List (Nat->Int)):(evcs l).length=l.length * 10:=by
 induction l with
 |nil=>rfl
 |cons a l ih=>simp only[evcs,List.flatMap_cons,List.length_append,List.length_cons] at *;rw[ih];simp[evc];omega
theorem RM.setOut {w1:World}{v':Value}{e:Nat->Int}(h:RM w B c m vA vO)(hG:Grew 0 42 10 w vO w1 v' (m.out.length+1) (evcs m.out++evc e)):
  RM (w1.setCell ⟨B,11,none⟩ v') B c {m with out:=m.out++[e]} vA v'/\w1.cell? ⟨B,11,none⟩=some vO/\w1.frozen? ⟨B,11,none⟩=false:=by
 have hB:=(gsi.1 h.blk).1
 have hBk:w1.heap[B]?=w.heap[B]?:=hG.grown.block B hB (fun e=>h.sepO e.symm)
 have hsep:v'.ownBlock≠some B:=by
  rcases hG.lies with h1|h1
  .rw[h1];exact h.sepO
  .intro e;have:=h1 B e;omega
 refine⟨⟨?_,?_,?_,h.sepA,hsep,?_⟩,?_,?_⟩
 .exact zbb (by rw[hBk];exact h.blk)
 .refine zb1 (own_at h.all fun g hg=>hG.grown.block g (zgw h.all g hg) fun e=>h.sep g hg e.symm) B 11 _ h.sepA
 .refine zb1 ?_ B 11 _ hsep
  have:=hG.own
  rw[←evcs_snoc] at this
  simpa using this
 .intro g hg hv
  rcases hG.lies with h1|h1
  .exact h.sep g hg (by rw[←h1];exact hv)
  .have:=h1 g hv
   have:=zgw h.all g hg
   omega
 .exact(World.cell?_of_block (w:=w) (w':=w1) (a:=⟨B,11,none⟩) hBk).trans (h.cells 11 _ rfl)
 .exact(World.frozen?_of_block (w:=w) (w':=w1) (a:=⟨B,11,none⟩) hBk).trans (h.free 11)
theorem tell_any (B:Nat)(c:Cf)(m:Mk)(vA vO:Value)(e:Nat->Int)(F:Nat->Prop)(N:Nat)(w:World)(R:EW)(h:RM w B c m vA vO)(hF:Ft F N B vA vO)(hN:N<=w.heap.size)(hs:m.seq<=4294967295)(ho:m.out.length<=1048576)
  (hR: ∀vO' w',RM w' B c (zax m e) vA vO'->Ft F N B vA vO'->Tch F w w'->R (.returned (.tuple #[])) w'):
  Calls Tryz.prog 140 #[.pointer (some ⟨B,0,none⟩),evv e] w R:=by
 have HR:=zl hR
 have HM:=zl h
 have HF:=zl hF
 have c9:=h.cells 9 _ rfl
 have f9:=h.free 9
 have hlt:=zab c9
 obtain ⟨s1,hs1⟩: ∃s1:Nat,s1=(m.seq+1)%4294967296:=⟨_,rfl⟩
 have hsI:((m.seq:Int)+1)%4294967296=(s1:Int):=by rw[hs1];omega
 have h2:=h.setSeq s1
 have hb2:=zac (w.setCell ⟨B,9,none⟩ (.int .i64 (s1:Nat))) (.cells #[.int .i64 (e 0),.int .i64 (s1:Nat),.int .i64 (e 2),.int .i64 (e 3),.int .i64 (e 4),.int .i64 (e 5),.int .i64 (e 6),.int .i64 (e 7),.int .i64 (e 8),.int .i64 (e 9)] 42)
 have h3:=h2.ext hb2
 have hE: ∀i,((w.setCell ⟨B,9,none⟩ (.int .i64 (s1:Nat))).alloc (.cells #[.int .i64 (e 0),.int .i64 (s1:Nat),.int .i64 (e 2),.int .i64 (e 3),.int .i64 (e 4),.int .i64 (e 5),.int .i64 (e 6),.int .i64 (e 7),.int .i64 (e 8),.int .i64 (e 9)] 42)).cell? ⟨w.heap.size,i,none⟩=(#[.int .i64 (e 0),.int .i64 (s1:Nat),.int .i64 (e 2),.int .i64 (e 3),.int .i64 (e 4),.int .i64 (e 5),.int .i64 (e 6),.int .i64 (e 7),.int .i64 (e 8),.int .i64 (e 9)]:Array Value)[i]?:=by
  intro i
  have:=cell_of_row ((w.setCell ⟨B,9,none⟩ (.int .i64 (s1:Nat))).alloc (.cells #[.int .i64 (e 0),.int .i64 (s1:Nat),.int .i64 (e 2),.int .i64 (e 3),.int .i64 (e 4),.int .i64 (e 5),.int .i64 (e 6),.int .i64 (e 7),.int .i64 (e 8),.int .i64 (e 9)] 42)) (w.setCell ⟨B,9,none⟩ (.int .i64 (s1:Nat))).heap.size i _ _ (0,0) (heap_alloc_new _ _)
  simpa [World.setCell] using this
 have HT:Hid (Tch F w ((w.setCell ⟨B,9,none⟩ (.int .i64 (s1:Nat))).alloc (.cells #[.int .i64 (e 0),.int .i64 (s1:Nat),.int .i64 (e 2),.int .i64 (e 3),.int .i64 (e 4),.int .i64 (e 5),.int .i64 (e 6),.int .i64 (e 7),.int .i64 (e 8),.int .i64 (e 9)] 42))):=
  Tch.trans (b:=w.setCell ⟨B,9,none⟩ (.int .i64 (s1:Nat))) ⟨rfl,rfl,rfl,by simp[World.setCell],fun g hg hn=>bhs w ⟨B,9,none⟩ _ g (fun e=>hn (by rw[e];exact hF.b))⟩ (Tch.of hb2)
 have HM3:=zl h3
 have HT3:Hid (zax m e={({m with seq:=s1}:Mk) with out:=m.out++[fun j=>if j=1 then (s1:Int) else e j]}):=by rw[hs1];rfl
 have HE:=zl hE
 clear hR h hF h2 hb2 h3 HM hE hs1
 unfold evv
 go_enter Tryz.func140,Tryz.ntmps140
 go_wp2_with fail
 clear hsI
 generalize (w.setCell ⟨B,9,none⟩ (.int .i64 (s1:Nat))).alloc (.cells #[.int .i64 (e 0),.int .i64 (s1:Nat),.int .i64 (e 2),.int .i64 (e 3),.int .i64 (e 4),.int .i64 (e 5),.int .i64 (e 6),.int .i64 (e 7),.int .i64 (e 8),.int .i64 (e 9)] 42)=W at *
 have e0:=HE.o 0
 have e1:=HE.o 1
 have e2:=HE.o 2
 have e3:=HE.o 3
 have e4:=HE.o 4
 have e5:=HE.o 5
 have e6:=HE.o 6
 have e7:=HE.o 7
 have e8:=HE.o 8
 have e9:=HE.o 9
 clear HE
 have c11:=HM3.o.cells 11 _ rfl
 have f11:=HM3.o.free 11
 have hB:=zab c11
 have HOw:=zl (HM3.o.out)
 obtain ⟨ao,co,rfl⟩: ∃ao co,vO= .slice ao m.out.length co:=by
  rcases HOw.o.2 with ⟨h1,h2⟩|⟨g,cap,_,h1,_⟩
  .exact⟨none,0,by rw[h1,h2]⟩
  .exact⟨_,cap,h1⟩
 have KEY: ∀v4 w4,Grew 0 42 10 W.drew (.slice ao m.out.length co) w4 v4 (m.out.length+1) (evcs m.out++[.int .i64 (e 0),.int .i64 (s1:Nat),.int .i64 (e 2),.int .i64 (e 3),.int .i64 (e 4),.int .i64 (e 5),.int .i64 (e 6),.int .i64 (e 7),.int .i64 (e 8),.int .i64 (e 9)])-> ∃b2 j2,v4= .slice b2 (m.out.length+1) j2/\Hid (R (.returned (.tuple #[])) (w4.setCell ⟨B,11,none⟩ (.slice b2 (m.out.length+1) j2)))/\w4.cell? ⟨B,11,none⟩=some (.slice ao m.out.length co)/\w4.frozen? ⟨B,11,none⟩=false:=by
  intro v4 w4 hG
  have hG':=hG.undrewR
  obtain ⟨b2,j2,rfl⟩: ∃ao co,v4= .slice ao (m.out.length+1) co:=by
   rcases hG.own.2 with ⟨h1,h2⟩|⟨g,cap,_,h1,_⟩
   .omega
   .exact⟨_,cap,h1⟩
  obtain ⟨q1,q2,q3⟩:=HM3.o.setOut (e:=fun j=>if j=1 then (s1:Int) else e j) hG'
  refine⟨b2,j2,rfl,HR.o _ _ (by rw[HT3.o];exact q1) ?_ ?_,q2,q3⟩
  .refine⟨HF.o.up,HF.o.b,HF.o.a,fun g hg=>?_⟩
   rcases hG'.lies with h1|h1
   .exact HF.o.o g (by rw[←h1];exact hg)
   .exact HF.o.up g (llt hN (llt HT.o.size (h1 g hg)))
  .refine HT.o.trans ⟨hG'.grown.os,hG'.grown.tape,hG'.grown.output,by simpa [World.setCell] using hG'.grown.size,fun g hg hn=>?_⟩
   rw[bhs _ _ _ _ (fun e=>hn (by rw[e];exact HF.o.b))]
   exact hG'.grown.block g hg fun e=>hn (HF.o.o g e.symm)
 clear HR HM3 HT HF HT3
 go_region_law (refine zej 0 10 80 m.out.length _ _ _ (World.ownsRow.drew HOw.o) (Nat.zero_le _) Tryz.infoEventR rfl (by decide) rfl (by simp[Value.oneCell']) (by omega) (by decide) _ _ 32 Tryz.underlying32 rfl rfl rfl rfl ?_;intro v4 w4 hG4;obtain ⟨b2,j2,rfl,HG4,c4,z4⟩:=KEY v4 w4 hG4;clear hG4)
 all_goals (go_end0;exact HG4.o)
theorem zf5 (B:Nat)(c:Cf)(m:Mk)(vA vO:Value)(e:Nat->Int)(V:Value)(hV:V=evv e)(F:Nat->Prop)(N:Nat)(w:World)(R:EW)(h:RM w B c m vA vO)(hF:Ft F N B vA vO)(hN:N<=w.heap.size)(hs:m.seq<=4294967295)(ho:m.out.length<=1048576)
  (hR: ∀vO' w',RM w' B c (zax m e) vA vO'->Ft F N B vA vO'->Tch F w w'->R (.returned (.tuple #[])) w'):
  Calls Tryz.prog 140 #[.pointer (some ⟨B,0,none⟩),V] w R:=by
 subst hV
 exact tell_any B c m vA vO e F N w R h hF hN hs ho hR
theorem zbz (B:Nat)(c:Cf)(m:Mk)(vA vO:Value)(id why:Nat)(F:Nat->Prop)(N:Nat)(w:World)(R:EW)(h:RM w B c m vA vO)(hF:Ft F N B vA vO)(hN:N<=w.heap.size)(hs:m.seq<=4294967295)(ho:m.out.length<=1048576)
  (hR: ∀vO' w',RM w' B c (zbh m id why) vA vO'->Ft F N B vA vO'->Tch F w w'->R (.returned (.tuple #[])) w'):
  Calls Tryz.prog 107 #[.pointer (some ⟨B,0,none⟩),.int .i64 id,.int .i64 why] w R:=by
 have HR:=zl hR
 have HM:=zl h
 have HF:=zl hF
 clear hR h hF
 go_enter Tryz.func107,Tryz.ntmps107
 go_wp2_with fail
 refine zf5 B c m vA vO (mkev 2 0 id why 0 0 0 0 0 0) _ (by rfl) F N _ _ (by exact HM.o) HF.o (by exact hN) hs ho ?_
 intro vO' w' h1 h2 h3
 have hfin:=zl (HR.o vO' w' h1 h2 (by exact h3))
 clear h1 h2 h3
 go_wp2_with fail
 go_end0
 exact hfin.o
end
