import Derived.Test.YtmiiejinahnpkaaGreatDoorXCcBj
namespace Go.Proofs.YtmiiejinahnpkaaGreatDoor
open Go.RowKit
def LiesAt (X:Nat->Int) (p:Nat) (l:List Int):Prop:= ∀i,i<l.length->X (p+i)=l.getD i 0
variable {a b:List Int} {p:Nat} {X:Nat->Int}
theorem LiesAt.left (h:LiesAt X p (a++b)):LiesAt X p a:=fun i hi=>by
 rw[h i (by simp;omega)]
 simp[List.getD,List.getElem?_append_left hi]
theorem LiesAt.right (h:LiesAt X p (a++b)):LiesAt X (p+a.length) b:=fun i hi=>by
 rw[Nat.add_assoc,h (a.length+i) (by simp;omega)]
 simp[List.getD,List.getElem?_append_right]
theorem LiesAt.cons {x:Int}(h:LiesAt X p (x::b)):X p=x/\LiesAt X (p+1) b:=
 ⟨by simpa using h 0 (by simp),fun i hi=>by rw[show p+1+i=p+(i+1) by omega,h (i+1) (by simp;omega)];simp⟩
theorem nb_be (X:Nat->Int)(p n:Nat)(V:Int)(h:LiesAt X p (be V n)):nb X p n=V%256^n:=by
 have key: ∀k,k<=n->nb X p k=V/256^(n-k)%256^k:=by
  intro k hk
  induction k with
  |zero=>simp only[nb,Int.pow_zero];rw[Int.emod_one]
  |succ k ih=>
   have hx:=h k (by rw[zb8];omega)
   rw[List.getD,be_get V n k (by omega)] at hx
   simp only[nb,ih (by omega),hx,Option.getD_some]
   rw[show n-k=(n-1-k)+1 by omega,show n-(k+1)=n-1-k by omega,Int.pow_succ,←Int.ediv_ediv_of_nonneg (Int.pow_nonneg (by decide))]
   generalize V/256^(n-1-k)=W
   have hp:(0:Int)<256^k:=Int.pow_pos (by decide)
   rw[Int.pow_succ]
   generalize (256:Int)^k=M at *
   have e1:=Int.mul_ediv_add_emod W 256
   have e2:=Int.mul_ediv_add_emod (W/256) M
   have b1:=Int.emod_nonneg (W/256) (Int.ne_of_gt hp)
   have b2:=Int.emod_lt_of_pos (W/256) hp
   have hW:W=(W/256%M * 256+W%256)+(M * 256) *(W/256/M):=by
    rw[Int.mul_assoc,Int.mul_comm 256,←Int.mul_assoc,Int.add_right_comm,←Int.add_mul]
    omega
   have hA:(W/256%M * 256+W%256+(M * 256) *(W/256/M))%(M * 256)=W%(M * 256):=by rw[←hW]
   rw[Int.add_mul_emod_self_left,Int.emod_eq_of_lt (by omega) (by omega)] at hA
   exact hA
 have:=key n nr
 rwa[Nat.sub_self,Int.pow_zero,Int.ediv_one] at this
theorem be_nb (X:Nat->Int)(p n:Nat)(hb: ∀i,i<n->0<=X (p+i)/\X (p+i)<=255):be (nb X p n) n=(List.range n).map fun i=>X (p+i):=by
 have key: ∀k m,k+m<=n->0<=nb X p (k+m)/\nb X p (k+m)/256^m=nb X p k:=by
  intro k m
  induction m with
  |zero=>
   intro hk
   refine⟨?_,by simp⟩
   induction k with
   |zero=>simp[nb]
   |succ k ih=>
    have h1:=ih (by omega)
    have h2:=hb k (by omega)
    simp only[Nat.add_zero,nb] at h1 ⊢
    omega
  |succ m ih=>
   intro hk
   have h1:=ih (by omega)
   have h2:=hb (k+m) (by omega)
   refine⟨?_,?_⟩
   .rw[←Nat.add_assoc];simp only[nb];omega
   .rw[←Nat.add_assoc,←h1.2]
    simp only[nb]
    rw[Int.pow_succ,Int.mul_comm (256^m) 256,←Int.ediv_ediv_of_nonneg (by decide)]
    congr 1
    omega
 apply List.ext_getElem?
 intro j
 by_cases hj:j<n
 .rw[be_get _ _ _ hj,List.getElem?_map,List.getElem?_range hj]
  simp only[Option.map_some,Option.some.injEq]
  have h1:=(key (j+1) (n-1-j) (by omega)).2
  rw[show j+1+(n-1-j)=n by omega] at h1
  rw[h1]
  simp only[nb]
  have:=hb j hj
  omega
 .rw[List.getElem?_eq_none (by rw[zb8];omega),List.getElem?_eq_none (by simp;omega)]
variable {k:Int}
theorem isK_iff:isK k=true↔1<=k/\k<=8:=by simp[isK]
theorem isN_iff:isN k=true↔0<=k/\k<=4294967295:=by simp[isN]
theorem be_one (h:0<=k/\k<=255):be k 1=[k]:=by
 simp only[be,Int.pow_zero,Int.ediv_one]
 rw[Int.emod_eq_of_lt h.1 (by omega)]
theorem ebytes_elen (e:Nat->Int)(hk:isK (e 0)=true):(zdr e).length=elen (e 0):=by
 rw[ebytes_ref e hk]
 rcases zcd (e 0) with h|h|h|h|h|h|h|h|h
 case inr.inr.inr.inr.inr.inr.inr.inr=>rw[h] at hk;cases hk
 all_goals simp[nums,layn,elen,isK,wide,h,zb8]
theorem wrap64 {v:Int}(h: -9223372036854775808<=v/\v<=9223372036854775807):IntKind.i64.wrap (v%18446744073709551616)=v:=by
 simp only[IntKind.wrap_i64]
 omega
theorem dev_lies (X:Nat->Int)(p:Nat)(e:Nat->Int)(hf:fits e=true)(h8: -9223372036854775808<=e 8/\e 8<=9223372036854775807)(h:LiesAt X p (zdr e)):
  X p=e 0/\ ∀j,j<10->dev X p j=e j:=by
 have hk:isK (e 0)=true:=by simp only[fits,Bool.and_eq_true] at hf;exact hf.1.1.1
 have hk':=isK_iff.1 hk
 have h0:X p=e 0:=by
  have:=h.left.left
  rw[be_one (by omega)] at this
  exact this.cons.1
 refine⟨h0,fun j hj=>?_⟩
 have h1:nb X (p+1) 4=e 1:=by
  have:=h.left.right
  rw[zb8] at this
  rw[nb_be _ _ _ _ this]
  simp only[fits,Bool.and_eq_true,isN_iff] at hf
  have:=hf.1.1.2
  exact Int.emod_eq_of_lt (by omega) (by simp;omega)
 have hr:=h.right
 simp only[List.length_append,zb8] at hr
 have n4: ∀q V,isN V=true->LiesAt X q (be V 4)->nb X q 4=V:=by
  intro q V hV hl
  rw[nb_be _ _ _ _ hl]
  have:=isN_iff.1 hV
  exact Int.emod_eq_of_lt (by omega) (by simp;omega)
 have n8: ∀q V,(-9223372036854775808<=V/\V<=9223372036854775807)->LiesAt X q (be V 8)->IntKind.i64.wrap (nb X q 8)=V:=by
  intro q V hV hl
  rw[nb_be _ _ _ _ hl]
  exact wrap64 hV
 generalize hw:IntKind.i64.wrap=Z at n8
 have hj':j=0\/j=1\/j=2\/j=3\/j=4\/j=5\/j=6\/j=7\/j=8\/j=9:=by omega
 rcases zcd (e 0) with hh|hh|hh|hh|hh|hh|hh|hh|hh
 case inr.inr.inr.inr.inr.inr.inr.inr=>rw[hh] at hk;cases hk
 all_goals
  simp only[fits,lay,hh] at hf hr
  simp[List.range,List.range.loop] at hf
  simp[wid] at hr
  simp only[dev,dval,lay,h0,hh,h1,hw]
 case inr.inr.inl=>
  have a:=n4 _ _ hf.1.2.1 hr.left
  have b:=n4 _ _ hf.1.2.2.1 hr.right.left
  have c:=n4 _ _ hf.1.2.2.2.1 hr.right.right.left
  have d:=n4 _ _ hf.1.2.2.2.2 hr.right.right.right
  simp only[zb8] at b c d
  clear n4 n8 hr h h0 hk hk' h8
  rcases hj' with rfl|rfl|rfl|rfl|rfl|rfl|rfl|rfl|rfl|rfl<;>simp[List.idxOf,List.findIdx,List.findIdx.go,a,b,c,d,hf,hh]
 case inr.inr.inr.inr.inr.inr.inr.inl=>
  have a:=n4 _ _ hf.1.2 hr
  clear n4 n8 hr h h0 hk hk' h8
  rcases hj' with rfl|rfl|rfl|rfl|rfl|rfl|rfl|rfl|rfl|rfl<;>simp[List.idxOf,List.findIdx,List.findIdx.go,a,hf,hh]
 case inr.inr.inr.inr.inr.inl|inr.inr.inr.inr.inr.inr.inl=>
  have a:=n4 _ _ hf.1.2.1 hr.left
  have b:=n4 _ _ hf.1.2.2 hr.right.left
  have c:=n8 _ _ h8 hr.right.right
  simp only[zb8] at b c
  clear n4 n8 hr h h0 hk hk' h8
  rcases hj' with rfl|rfl|rfl|rfl|rfl|rfl|rfl|rfl|rfl|rfl<;>simp[List.idxOf,List.findIdx,List.findIdx.go,a,b,c,hf,hh]
 all_goals
  have a:=n4 _ _ hf.1.2.1 hr.left
  have b:=n4 _ _ hf.1.2.2 hr.right
  simp only[zb8] at b
  clear n4 n8 hr h h0 hk hk' h8
  rcases hj' with rfl|rfl|rfl|rfl|rfl|rfl|rfl|rfl|rfl|rfl<;>simp[List.idxOf,List.findIdx,List.findIdx.go,a,b,hf,hh]
theorem lies_all (es:Nat->Nat->Int)(X:Nat->Int)(n:Nat)(hf: ∀q,q<n->fits (es q)=true)(h8: ∀q,-9223372036854775808<=es q 8/\es q 8<=9223372036854775807)(h:LiesAt X 0 (za6 es n)):
  ∀q,q<=n->pos X q=(za6 es q).length/\ ∀k,k<q->isK (X (pos X k))=true/\pos X (k+1)=pos X k+elen (X (pos X k))/\pos X (k+1)<=(za6 es q).length/\ ∀j,j<10->dev X (pos X k) j=es k j:=by
 intro q hq
 induction q with
 |zero=>exact⟨by simp[pos,za6],fun k hk=>by omega⟩
 |succ q ih=>
  obtain ⟨h1,h2⟩:=ih (by omega)
  have hsp: ∃b,za6 es n=za6 es q++(zdr (es q)++b):=by
   obtain ⟨d,rfl⟩: ∃d,n=q+1+d:=⟨n-(q+1),by omega⟩
   refine⟨(List.range d).flatMap fun i=>zdr (es (q+1+i)),?_⟩
   rw[←List.append_assoc,←zcm]
   simp only[za6]
   rw[List.range_add,List.flatMap_append,List.flatMap_map]
  obtain ⟨b,hb⟩:=hsp
  have hl:=h
  rw[hb] at hl
  have hq':=hl.right.left
  rw[Nat.zero_add,←h1] at hq'
  obtain ⟨d0,d1⟩:=dev_lies X _ _ (hf q (by omega)) (h8 q) hq'
  have hk:isK (es q 0)=true:=by have:=hf q (by omega);simp only[fits,Bool.and_eq_true] at this;exact this.1.1.1
  have hp:pos X (q+1)=(za6 es (q+1)).length:=by rw[zcm,List.length_append,ebytes_elen _ hk,←d0,←h1,pos]
  have hgt:(za6 es q).length<=(za6 es (q+1)).length:=by rw[zcm,List.length_append];omega
  refine⟨hp,fun k hk'=>?_⟩
  by_cases hkq:k=q
  .subst hkq
   exact⟨by rw[d0];exact hk,rfl,by omega,d1⟩
  .obtain ⟨a1,a2,a3,a4⟩:=h2 k (by omega)
   exact⟨a1,a2,by omega,a4⟩
theorem lies_good (es:Nat->Nat->Int)(X:Nat->Int)(n:Nat)(hf: ∀q,q<n->fits (es q)=true)(h8: ∀q,-9223372036854775808<=es q 8/\es q 8<=9223372036854775807)(h:LiesAt X 0 (za6 es n)):
  pos X n=(za6 es n).length/\ ∀q,q<n->good X (za6 es n).length q/\ ∀j,j<10->dev X (pos X q) j=es q j:=by
 obtain ⟨h1,h2⟩:=lies_all es X n hf h8 h n nr
 refine⟨h1,fun q hq=>?_⟩
 obtain ⟨a1,a2,a3,a4⟩:=h2 q hq
 have:=zjy _ a1
 exact⟨⟨by omega,a1,by omega⟩,a4⟩
theorem lies_short (es:Nat->Nat->Int)(X:Nat->Int)(n:Nat)(hf: ∀q,q<n->fits (es q)=true)(h8: ∀q,-9223372036854775808<=es q 8/\es q 8<=9223372036854775807)(h:LiesAt X 0 (za6 es n))(hn:0<n):
  (∀q,q<n-1->good X ((za6 es n).length-1) q)/\pos X (n-1)<(za6 es n).length-1/\isK (X (pos X (n-1)))=true/\(za6 es n).length-1<pos X (n-1)+elen (X (pos X (n-1))):=by
 obtain ⟨h1,h2⟩:=lies_all es X n hf h8 h n nr
 obtain ⟨a1,a2,a3,-⟩:=h2 (n-1) (by omega)
 rw[show n-1+1=n by omega] at a2 a3
 have e1:=zjy _ a1
 refine⟨fun q hq=>?_,by omega,a1,by omega⟩
 obtain ⟨b1,b2,b3,-⟩:=h2 q (by omega)
 obtain ⟨c1,c2⟩:=lies_all es X n hf h8 h (n-1) (by omega)
 obtain ⟨-,-,d3,-⟩:=c2 q hq
 have:=zjy _ b1
 rw[←c1] at d3
 exact⟨by omega,b1,by omega⟩
theorem fits_dev (X:Nat->Int)(p N:Nat)(hb: ∀i,i<N->0<=X i/\X i<=255)(hk:isK (X p)=true)(hp:p+elen (X p)<=N):
  fits (dev X p)=true/\zdr (dev X p)=(List.range (elen (X p))).map (fun i=>X (p+i)):=by
 have nbN: ∀q,q+4<=N->isN (nb X q 4)=true:=by
  intro q hq
  have b0:=hb q (by omega)
  have b1:=hb (q+1) (by omega)
  have b2:=hb (q+2) (by omega)
  have b3:=hb (q+3) (by omega)
  rw[isN_iff]
  simp only[nb,Nat.add_zero]
  omega
 have e4: ∀q,q+4<=N->be (nb X q 4) 4=[X q,X (q+1),X (q+2),X (q+3)]:=by
  intro q hq
  rw[be_nb X q 4 (fun i hi=>hb _ (by omega))]
  rfl
 have e8: ∀q,q+8<=N->be (IntKind.i64.wrap (nb X q 8)) 8=[X q,X (q+1),X (q+2),X (q+3),X (q+4),X (q+5),X (q+6),X (q+7)]:=by
  intro q hq
  rw[←be_mod _ 8 (by decide),show IntKind.i64.wrap (nb X q 8)%18446744073709551616=nb X q 8%18446744073709551616 by simp only[IntKind.wrap_i64];omega,be_mod _ 8 (by decide),be_nb X q 8 (fun i hi=>hb _ (by omega))]
  rfl
 have hk':=isK_iff.1 hk
 have e0:=be_one (k:=X p) (by omega)
 generalize hw:IntKind.i64.wrap=Z at e8
 rcases zcd (X p) with h|h|h|h|h|h|h|h|h
 case inr.inr.inr.inr.inr.inr.inr.inr=>rw[h] at hk;cases hk
 all_goals
  rw[h] at e0
  simp[elen,layn,isK,wide,h] at hp
  have p1:=e4 (p+1) (by omega)
  have q1:=nbN (p+1) (by omega)
  have p2:=e4 (p+5) (by omega)
  have q2:=nbN (p+5) (by omega)
  simp only[fits,zdr,dev,dval,lay,h,hw]
  simp[elen,layn,isK,wide,wid,h,List.range,List.range.loop,List.idxOf,List.findIdx,List.findIdx.go,e0,p1,p2,q1,q2]
 case inr.inr.inl=>
  simp[e4 (p+9) (by omega),e4 (p+13) (by omega),e4 (p+17) (by omega),nbN (p+9) (by omega),nbN (p+13) (by omega),nbN (p+17) (by omega),Nat.add_assoc]
 case inr.inr.inr.inr.inr.inl|inr.inr.inr.inr.inr.inr.inl=>
  simp[e4 (p+9) (by omega),e8 (p+13) (by omega),nbN (p+9) (by omega),Nat.add_assoc]
 all_goals
  simp[e4 (p+9) (by omega),nbN (p+9) (by omega),Nat.add_assoc]
theorem told_again (X:Nat->Int)(N i:Nat)(hb: ∀i,i<N->0<=X i/\X i<=255)(h: ∀q,q<i->good X N q):
  (∀q,q<i->fits (dev X (pos X q))=true)/\za6 (fun q=>dev X (pos X q)) i=(List.range (pos X i)).map X:=by
 refine⟨fun q hq=>(fits_dev X _ N hb (h q hq).2.1 (h q hq).2.2).1,?_⟩
 induction i with
 |zero=>rfl
 |succ i ih=>
  rw[zcm,ih (fun q hq=>h q (by omega)),(fits_dev X _ N hb (h i (by omega)).2.1 (h i (by omega)).2.2).2,pos,List.range_add,List.map_append,List.map_map]
  rfl
