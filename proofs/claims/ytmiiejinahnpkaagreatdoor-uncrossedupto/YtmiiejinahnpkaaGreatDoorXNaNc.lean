import Derived.Lib.AppendZeros
import Derived.Test.YtmiiejinahnpkaaGreatDoorXAjEn
set_option maxRecDepth 8000
set_option maxHeartbeats 1000000
namespace Go.Proofs.YtmiiejinahnpkaaGreatDoor
section
open Go.RowKit
def LiesAt (X:Nat->Int) (p:Nat) (l:List Int):Prop:= ∀i,i<l.length->X (p+i)=l.getD i 0
variable {a b:List Int} {p:Nat} {X:Nat->Int}
theorem LiesAt.left (h:LiesAt X p (a++b)):LiesAt X p a:=fun i hi=>by
 rw[h i (by simp;omega)]
 simp[List.getD,List.getElem?_append_left hi]
theorem LiesAt.right (h:LiesAt X p (a++b)):LiesAt X (p+a.length) b:=fun i hi=>by
 rw[Nat.add_assoc,h (a.length+i) (by simp;omega)]
 simp[List.getD,List.getElem?_append_right]
theorem LiesAt.cons {x:Int}(h:LiesAt X p (x::b)):X p=x/\LiesAt X (p+1) b:=
 ⟨by simpa using h 0 (by simp),fun i hi=>by rw[show p+1+i=p+(i+1) by omega,h (i+1) (by simp;omega)];simp⟩
theorem nb_be (X:Nat->Int)(p n:Nat)(V:Int)(h:LiesAt X p (be V n)):nb X p n=V%256^n:=by
 have key: ∀k,k<=n->nb X p k=V/256^(n-k)%256^k:=by
  intro k hk
  induction k with
  |zero=>simp only[nb,Int.pow_zero];rw[Int.emod_one]
  |succ k ih=>
   have hx:=h k (by rw[zb8];omega)
   rw[List.getD,be_get V n k (by omega)] at hx
   simp only[nb,ih (by omega),hx,Option.getD_some]
   rw[show n-k=(n-1-k)+1 by omega,show n-(k+1)=n-1-k by omega,Int.pow_succ,←Int.ediv_ediv_of_nonneg (Int.pow_nonneg (by decide))]
   generalize V/256^(n-1-k)=W
   have hp:(0:Int)<256^k:=Int.pow_pos (by decide)
   rw[Int.pow_succ]
   generalize (256:Int)^k=M at *
   have e1:=Int.mul_ediv_add_emod W 256
   have e2:=Int.mul_ediv_add_emod (W/256) M
   have b1:=Int.emod_nonneg (W/256) (Int.ne_of_gt hp)
   have b2:=Int.emod_lt_of_pos (W/256) hp
   have hW:W=(W/256%M * 256+W%256)+(M * 256) *(W/256/M):=by
    rw[Int.mul_assoc,Int.mul_comm 256,←Int.mul_assoc,Int.add_right_comm,←Int.add_mul]
    omega
   have hA:(W/256%M * 256+W%256+(M * 256) *(W/256/M))%(M * 256)=W%(M * 256):=by rw[←hW]
   rw[Int.add_mul_emod_self_left,Int.emod_eq_of_lt (by omega) (by omega)] at hA
   exact hA
 have:=key n nr
 rwa[Nat.sub_self,Int.pow_zero,Int.ediv_one] at this
theorem be_nb (X:Nat->Int)(p n:Nat)(hb: ∀i,i<n->0<=X (p+i)/\X (p+i)<=255):be (nb X p n) n=(List.range n).map fun i=>X (p+i):=by
 have key: ∀k m,k+m<=n->0<=nb X p (k+m)/\nb X p (k+m)/256^m=nb X p k:=by
  intro k m
  induction m with
  |zero=>
   intro hk
   refine⟨?_,by simp⟩
   induction k with
   |zero=>simp[nb]
   |succ k ih=>
    have h1:=ih (by omega)
    have h2:=hb k (by omega)
    simp only[Nat.add_zero,nb] at h1 ⊢
    omega
  |succ m ih=>
   intro hk
   have h1:=ih (by omega)
   have h2:=hb (k+m) (by omega)
   refine⟨?_,?_⟩
   .rw[←Nat.add_assoc];simp only[nb];omega
   .rw[←Nat.add_assoc,←h1.2]
    simp only[nb]
    rw[Int.pow_succ,Int.mul_comm (256^m) 256,←Int.ediv_ediv_of_nonneg (by decide)]
    congr 1
    omega
 apply List.ext_getElem?
 intro j
 by_cases hj:j<n
 .rw[be_get _ _ _ hj,List.getElem?_map,List.getElem?_range hj]
  simp only[Option.map_some,Option.some.injEq]
  have h1:=(key (j+1) (n-1-j) (by omega)).2
  rw[show j+1+(n-1-j)=n by omega] at h1
  rw[h1]
  simp only[nb]
  have:=hb j hj
  omega
 .rw[List.getElem?_eq_none (by rw[zb8];omega),List.getElem?_eq_none (by simp;omega)]
variable {k:Int}
theorem isK_iff:isK k=true↔1<=k/\k<=8:=by simp[isK]
theorem isN_iff:isN k=true↔0<=k/\k<=4294967295:=by simp[isN]
theorem be_one (h:0<=k/\k<=255):be k 1=[k]:=by
 simp only[be,Int.pow_zero,Int.ediv_one]
 rw[Int.emod_eq_of_lt h.1 (by omega)]
theorem ebytes_elen (e:Nat->Int)(hk:isK (e 0)=true):(zdr e).length=elen (e 0):=by
 rw[ebytes_ref e hk]
 rcases zcd (e 0) with h|h|h|h|h|h|h|h|h
 case inr.inr.inr.inr.inr.inr.inr.inr=>rw[h] at hk;cases hk
 all_goals simp[nums,layn,elen,isK,wide,h,zb8]
theorem wrap64 {v:Int}(h: -9223372036854775808<=v/\v<=9223372036854775807):IntKind.i64.wrap (v%18446744073709551616)=v:=by
 simp only[IntKind.wrap_i64]
 omega
theorem dev_lies (X:Nat->Int)(p:Nat)(e:Nat->Int)(hf:fits e=true)(h8: -9223372036854775808<=e 8/\e 8<=9223372036854775807)(h:LiesAt X p (zdr e)):
  X p=e 0/\ ∀j,j<10->dev X p j=e j:=by
 have hk:isK (e 0)=true:=by simp only[fits,Bool.and_eq_true] at hf;exact hf.1.1.1
 have hk':=isK_iff.1 hk
 have h0:X p=e 0:=by
  have:=h.left.left
  rw[be_one (by omega)] at this
  exact this.cons.1
 refine⟨h0,fun j hj=>?_⟩
 have h1:nb X (p+1) 4=e 1:=by
  have:=h.left.right
  rw[zb8] at this
  rw[nb_be _ _ _ _ this]
  simp only[fits,Bool.and_eq_true,isN_iff] at hf
  have:=hf.1.1.2
  exact Int.emod_eq_of_lt (by omega) (by simp;omega)
 have hr:=h.right
 simp only[List.length_append,zb8] at hr
 have n4: ∀q V,isN V=true->LiesAt X q (be V 4)->nb X q 4=V:=by
  intro q V hV hl
  rw[nb_be _ _ _ _ hl]
  have:=isN_iff.1 hV
  exact Int.emod_eq_of_lt (by omega) (by simp;omega)
 have n8: ∀q V,(-9223372036854775808<=V/\V<=9223372036854775807)->LiesAt X q (be V 8)->IntKind.i64.wrap (nb X q 8)=V:=by
  intro q V hV hl
  rw[nb_be _ _ _ _ hl]
  exact wrap64 hV
 generalize hw:IntKind.i64.wrap=Z at n8
 have hj':j=0\/j=1\/j=2\/j=3\/j=4\/j=5\/j=6\/j=7\/j=8\/j=9:=by omega
 rcases zcd (e 0) with hh|hh|hh|hh|hh|hh|hh|hh|hh
 case inr.inr.inr.inr.inr.inr.inr.inr=>rw[hh] at hk;cases hk
 all_goals
  simp only[fits,lay,hh] at hf hr
  simp[List.range,List.range.loop] at hf
  simp[wid] at hr
  simp only[dev,dval,lay,h0,hh,h1,hw]
 case inr.inr.inl=>
  have a:=n4 _ _ hf.1.2.1 hr.left
  have b:=n4 _ _ hf.1.2.2.1 hr.right.left
  have c:=n4 _ _ hf.1.2.2.2.1 hr.right.right.left
  have d:=n4 _ _ hf.1.2.2.2.2 hr.right.right.right
  simp only[zb8] at b c d
  clear n4 n8 hr h h0 hk hk' h8
  rcases hj' with rfl|rfl|rfl|rfl|rfl|rfl|rfl|rfl|rfl|rfl<;>simp[List.idxOf,List.findIdx,List.findIdx.go,a,b,c,d,hf,hh]
 case inr.inr.inr.inr.inr.inr.inr.inl=>
  have a:=n4 _ _ hf.1.2 hr
  clear n4 n8 hr h h0 hk hk' h8
  rcases hj' with rfl|rfl|rfl|rfl|rfl|rfl|rfl|rfl|rfl|rfl<;>simp[List.idxOf,List.findIdx,List.findIdx.go,a,hf,hh]
 case inr.inr.inr.inr.inr.inl|inr.inr.inr.inr.inr.inr.inl=>
  have a:=n4 _ _ hf.1.2.1 hr.left
  have b:=n4 _ _ hf.1.2.2 hr.right.left
  have c:=n8 _ _ h8 hr.right.right
  simp only[zb8] at b c
  clear n4 n8 hr h h0 hk hk' h8
  rcases hj' with rfl|rfl|rfl|rfl|rfl|rfl|rfl|rfl|rfl|rfl<;>simp[List.idxOf,List.findIdx,List.findIdx.go,a,b,c,hf,hh]
 all_goals
  have a:=n4 _ _ hf.1.2.1 hr.left
  have b:=n4 _ _ hf.1.2.2 hr.right
  simp only[zb8] at b
  clear n4 n8 hr h h0 hk hk' h8
  rcases hj' with rfl|rfl|rfl|rfl|rfl|rfl|rfl|rfl|rfl|rfl<;>simp[List.idxOf,List.findIdx,List.findIdx.go,a,b,hf,hh]
theorem lies_all (es:Nat->Nat->Int)(X:Nat->Int)(n:Nat)(hf: ∀q,q<n->fits (es q)=true)(h8: ∀q,-9223372036854775808<=es q 8/\es q 8<=9223372036854775807)(h:LiesAt X 0 (za6 es n)):
  ∀q,q<=n->pos X q=(za6 es q).length/\ ∀k,k<q->isK (X (pos X k))=true/\pos X (k+1)=pos X k+elen (X (pos X k))/\pos X (k+1)<=(za6 es q).length/\ ∀j,j<10->dev X (pos X k) j=es k j:=by
 intro q hq
 induction q with
 |zero=>exact⟨by simp[pos,za6],fun k hk=>by omega⟩
 |succ q ih=>
  obtain ⟨h1,h2⟩:=ih (by omega)
  have hsp: ∃b,za6 es n=za6 es q++(zdr (es q)++b):=by
   obtain ⟨d,rfl⟩: ∃d,n=q+1+d:=⟨n-(q+1),by omega⟩
   refine⟨(List.range d).flatMap fun i=>zdr (es (q+1+i)),?_⟩
   rw[←List.append_assoc,←zcm]
   simp only[za6]
   rw[List.range_add,List.flatMap_append,List.flatMap_map]
  obtain ⟨b,hb⟩:=hsp
  have hl:=h
  rw[hb] at hl
  have hq':=hl.right.left
  rw[Nat.zero_add,←h1] at hq'
  obtain ⟨d0,d1⟩:=dev_lies X _ _ (hf q (by omega)) (h8 q) hq'
  have hk:isK (es q 0)=true:=by have:=hf q (by omega);simp only[fits,Bool.and_eq_true] at this;exact this.1.1.1
  have hp:pos X (q+1)=(za6 es (q+1)).length:=by rw[zcm,List.length_append,ebytes_elen _ hk,←d0,←h1,pos]
  have hgt:(za6 es q).length<=(za6 es (q+1)).length:=by rw[zcm,List.length_append];omega
  refine⟨hp,fun k hk'=>?_⟩
  by_cases hkq:k=q
  .subst hkq
   exact⟨by rw[d0];exact hk,rfl,by omega,d1⟩
  .obtain ⟨a1,a2,a3,a4⟩:=h2 k (by omega)
   exact⟨a1,a2,by omega,a4⟩
theorem lies_good (es:Nat->Nat->Int)(X:Nat->Int)(n:Nat)(hf: ∀q,q<n->fits (es q)=true)(h8: ∀q,-9223372036854775808<=es q 8/\es q 8<=9223372036854775807)(h:LiesAt X 0 (za6 es n)):
  pos X n=(za6 es n).length/\ ∀q,q<n->good X (za6 es n).length q/\ ∀j,j<10->dev X (pos X q) j=es q j:=by
 obtain ⟨h1,h2⟩:=lies_all es X n hf h8 h n nr
 refine⟨h1,fun q hq=>?_⟩
 obtain ⟨a1,a2,a3,a4⟩:=h2 q hq
 have:=zjy _ a1
 exact⟨⟨by omega,a1,by omega⟩,a4⟩
theorem lies_short (es:Nat->Nat->Int)(X:Nat->Int)(n:Nat)(hf: ∀q,q<n->fits (es q)=true)(h8: ∀q,-9223372036854775808<=es q 8/\es q 8<=9223372036854775807)(h:LiesAt X 0 (za6 es n))(hn:0<n):
  (∀q,q<n-1->good X ((za6 es n).length-1) q)/\pos X (n-1)<(za6 es n).length-1/\isK (X (pos X (n-1)))=true/\(za6 es n).length-1<pos X (n-1)+elen (X (pos X (n-1))):=by
 obtain ⟨h1,h2⟩:=lies_all es X n hf h8 h n nr
 obtain ⟨a1,a2,a3,-⟩:=h2 (n-1) (by omega)
 rw[show n-1+1=n by omega] at a2 a3
 have e1:=zjy _ a1
 refine⟨fun q hq=>?_,by omega,a1,by omega⟩
 obtain ⟨b1,b2,b3,-⟩:=h2 q (by omega)
 obtain ⟨c1,c2⟩:=lies_all es X n hf h8 h (n-1) (by omega)
 obtain ⟨-,-,d3,-⟩:=c2 q hq
 have:=zjy _ b1
 rw[←c1] at d3
 exact⟨by omega,b1,by omega⟩
theorem fits_dev (X:Nat->Int)(p N:Nat)(hb: ∀i,i<N->0<=X i/\X i<=255)(hk:isK (X p)=true)(hp:p+elen (X p)<=N):
  fits (dev X p)=true/\zdr (dev X p)=(List.range (elen (X p))).map (fun i=>X (p+i)):=by
 have nbN: ∀q,q+4<=N->isN (nb X q 4)=true:=by
  intro q hq
  have b0:=hb q (by omega)
  have b1:=hb (q+1) (by omega)
  have b2:=hb (q+2) (by omega)
  have b3:=hb (q+3) (by omega)
  rw[isN_iff]
  simp only[nb,Nat.add_zero]
  omega
 have e4: ∀q,q+4<=N->be (nb X q 4) 4=[X q,X (q+1),X (q+2),X (q+3)]:=by
  intro q hq
  rw[be_nb X q 4 (fun i hi=>hb _ (by omega))]
  rfl
 have e8: ∀q,q+8<=N->be (IntKind.i64.wrap (nb X q 8)) 8=[X q,X (q+1),X (q+2),X (q+3),X (q+4),X (q+5),X (q+6),X (q+7)]:=by
  intro q hq
  rw[←be_mod _ 8 (by decide),show IntKind.i64.wrap (nb X q 8)%18446744073709551616=nb X q 8%18446744073709551616 by simp only[IntKind.wrap_i64];omega,be_mod _ 8 (by decide),be_nb X q 8 (fun i hi=>hb _ (by omega))]
  rfl
 have hk':=isK_iff.1 hk
 have e0:=be_one (k:=X p) (by omega)
 generalize hw:IntKind.i64.wrap=Z at e8
 rcases zcd (X p) with h|h|h|h|h|h|h|h|h
 case inr.inr.inr.inr.inr.inr.inr.inr=>rw[h] at hk;cases hk
 all_goals
  rw[h] at e0
  simp[elen,layn,isK,wide,h] at hp
  have p1:=e4 (p+1) (by omega)
  have q1:=nbN (p+1) (by omega)
  have p2:=e4 (p+5) (by omega)
  have q2:=nbN (p+5) (by omega)
  simp only[fits,zdr,dev,dval,lay,h,hw]
  simp[elen,layn,isK,wide,wid,h,List.range,List.range.loop,List.idxOf,List.findIdx,List.findIdx.go,e0,p1,p2,q1,q2]
 case inr.inr.inl=>
  simp[e4 (p+9) (by omega),e4 (p+13) (by omega),e4 (p+17) (by omega),nbN (p+9) (by omega),nbN (p+13) (by omega),nbN (p+17) (by omega),Nat.add_assoc]
 case inr.inr.inr.inr.inr.inl|inr.inr.inr.inr.inr.inr.inl=>
  simp[e4 (p+9) (by omega),e8 (p+13) (by omega),nbN (p+9) (by omega),Nat.add_assoc]
 all_goals
  simp[e4 (p+9) (by omega),nbN (p+9) (by omega),Nat.add_assoc]
theorem told_again (X:Nat->Int)(N i:Nat)(hb: ∀i,i<N->0<=X i/\X i<=255)(h: ∀q,q<i->good X N q):
  (∀q,q<i->fits (dev X (pos X q))=true)/\za6 (fun q=>dev X (pos X q)) i=(List.range (pos X i)).map X:=by
 refine⟨fun q hq=>(fits_dev X _ N hb (h q hq).2.1 (h q hq).2.2).1,?_⟩
 induction i with
 |zero=>rfl
 |succ i ih=>
  rw[zcm,ih (fun q hq=>h q (by omega)),(fits_dev X _ N hb (h i (by omega)).2.1 (h i (by omega)).2.2).2,pos,List.range_add,List.map_append,List.map_map]
  rfl
end
section
open Go.RowKit Go.Shelf Go.Lib
theorem bvs_one (l:List Int): ∀u∈l.map bv,u.oneCell'=true:=fun u hu=>by
 obtain ⟨x,_,rfl⟩:=List.mem_map.1 hu
 rfl
theorem bytes_join {w:World}{B:Nat}{v u:Value}{n m:Nat}{xs ys:List Int}(ty:TypeId)(h1:w.ownsRow B 5 1 v n (xs.map bv))(h2:w.ownsRow 0 5 1 u m (ys.map bv))(hn:n+m<=4000000000)(hb:B<=w.heap.size):
  ∃v' w',(Builtin.append_ #[31,31] ty #[v,u]).run Tryz.prog w= .ok v' w'/\Grew B 5 1 w v w' v' (n+m) ((xs++ys).map bv):=by
 obtain ⟨i0,hi0,hz0,hzs,hzb⟩:=info_parts Tryz.infoU8
 rcases h2.2 with ⟨rfl,h0⟩|⟨g,cap,cur,rfl,_,h3,h4,h5,h6,h7⟩
 .have hE:ys=[]:=by have:=h2.1;rw[h0] at this;exact List.eq_nil_of_length_eq_zero (by simpa using this)
  subst hE
  subst h0
  refine⟨v,w,?_,⟨by simpa using h1,grownBy_refl _ _,.inl rfl⟩⟩
  obtain ⟨a,c,rfl⟩:=zae h1
  have hnc:n<=c:=by
   rcases h1.2 with ⟨e1,e2⟩|⟨g,c',cur,e1,_,_,e4,_⟩
   .rw[e2];exact Nat.zero_le _
   .cases e1;exact e4
  simp[Builtin.append_,run_underlying Tryz.underlying31,sizeOf,typeInfo,hi0,Builtin.lenOf,Builtin.firstCells,loadCells]
  rw[if_pos hnc]
  cases a<;>simp[storeCells]
 .obtain ⟨v',w',r1,r2,r3,r4⟩:=run_append_own_at (P:=Tryz.prog) w B 31 ty 5 i0 _ 1 1 Tryz.underlying31 hi0 hz0 hzs hzb rfl (by decide) v n (xs.map bv) h1 ⟨g,0,none⟩ m cap (ys.map bv) (by have:=h2.1;omega) (fun j x hj=>by
   rw[Addr.add_lit]
   rw[cell_of_row w g (0+j) cur _ (0,0) h3]
   rw[←h7,List.getElem?_take] at hj
   split at hj
   .simpa using hj
   .cases hj) (bvs_one ys) (by unfold maxLen;omega) (by omega) hb
  refine⟨v',w',r1,⟨by rw[List.map_append];exact r2,r3,?_⟩⟩
  rcases r4.2 with h|h
  .exact .inl h
  .exact .inr fun g' hg=>by rw[h] at hg;injection hg with hg;omega
theorem kNumber_any (n:Int)(w:World)(R:EW)(h0:0<=n)(h1:n<=4294967295)
  (hR: ∀v w',Below w.heap.size w w'->w'.ownsRow w.heap.size 5 1 v 4 ((be n 4).map bv)->R (.returned v) w'):
  Calls Tryz.prog 61 #[.int .i64 n] w R:=by
 have HR:=zl hR
 clear hR
 go_enter Tryz.func61,Tryz.ntmps61
 go_wp2_with fail
 have hfin:Hid (R (.returned (.slice (some ⟨w.heap.size,0,none⟩) 4 4)) (w.alloc (.cells #[.int .u8 (n/16777216),.int .u8 (n/65536%256),.int .u8 (n/256%256),.int .u8 (n%256)] 5))):=by
  refine HR.o _ _ (br.alloc nr _) ?_
  have:=zft (base:=w.heap.size) (e:=5) w #[.int .u8 (n/16777216),.int .u8 (n/65536%256),.int .u8 (n/256%256),.int .u8 (n%256)] 4 nr rfl (by decide)
  rw[show (be n 4).map bv=(#[.int .u8 (n/16777216),.int .u8 (n/65536%256),.int .u8 (n/256%256),.int .u8 (n%256)]:Array Value).toList by simp[be,bv];omega]
  exact this
 exact hfin.o
theorem kTick_any (n:Int)(w:World)(R:EW)(h0:0<=n)(h1:n<=4294967295)
  (hR: ∀v w',Below w.heap.size w w'->w'.ownsRow w.heap.size 5 1 v 5 ((4::be n 4).map bv)->R (.returned v) w'):
  Calls Tryz.prog 32 #[.int .i64 n] w R:=by
 have HR:=zl hR
 clear hR
 go_enter Tryz.func32,Tryz.ntmps32
 go_wp2_with fail
 have HO:Hid ((w.alloc (.cells #[.int .u8 4] 5)).ownsRow w.heap.size 5 1 (.slice (some ⟨w.heap.size,0,none⟩) 1 1) 1 (([4]:List Int).map bv)):=zft (base:=w.heap.size) (e:=5) w #[.int .u8 4] 1 nr rfl (by decide)
 have HB:Hid (Below w.heap.size w (w.alloc (.cells #[.int .u8 4] 5))):=br.alloc nr _
 generalize w.alloc (.cells #[.int .u8 4] 5)=w1 at *
 refine kNumber_any n w1 _ h0 h1 ?_
 intro v2 w2 hb2 ho2
 have hz:w.heap.size<=w2.heap.size:=llt HB.o.size hb2.size
 obtain ⟨v3,w3,hj,hG⟩:=bytes_join 31 (zbe HO.o hb2) (own_base ho2 (Nat.zero_le _)) (by decide) hz
 have hfin:Hid (R (.returned v3) w3):=HR.o _ _ ((HB.o.trans (hb2.mono HB.o.size)).trans (hG.below hz (fun g hg=>by simp[Value.ownBlock] at hg;omega))) hG.own
 clear hb2 ho2 hG
 go_wp2_with (at_builtin;refine Lib.wpList_append_run _ rfl _ _ _ _ rfl _ _ rfl rfl _ _ hj ?_)
 exact hfin.o
theorem kFresh_any (id sd ty q p:Int)(w:World)(R:EW)(hi:0<=id/\id<=4294967295)(hs:0<=sd/\sd<=255)(ht:0<=ty/\ty<=255)(hq:0<=q/\q<=4294967295)(hp:0<=p/\p<=4294967295)
  (hR: ∀v w',Below w.heap.size w w'->w'.ownsRow w.heap.size 5 1 v 15 (([1]++be id 4++[sd,ty]++be q 4++be p 4).map bv)->R (.returned v) w'):
  Calls Tryz.prog 46 #[.int .i64 id,.int .i64 sd,.int .i64 ty,.int .i64 q,.int .i64 p] w R:=by
 have HR:=zl hR
 have HQ:=zl hq
 have HP:=zl hp
 obtain ⟨hs0,hs1⟩:=hs
 obtain ⟨ht0,ht1⟩:=ht
 clear hR hq hp
 go_enter Tryz.func46,Tryz.ntmps46
 go_wp2_with fail
 have HO:Hid ((w.alloc (.cells #[.int .u8 1] 5)).ownsRow w.heap.size 5 1 (.slice (some ⟨w.heap.size,0,none⟩) 1 1) 1 (([1]:List Int).map bv)):=zft (base:=w.heap.size) (e:=5) w #[.int .u8 1] 1 nr rfl (by decide)
 have HB:Hid (Below w.heap.size w (w.alloc (.cells #[.int .u8 1] 5))):=br.alloc nr _
 generalize w.alloc (.cells #[.int .u8 1] 5)=w1 at *
 refine kNumber_any id w1 _ hi.1 hi.2 ?_
 intro v2 w2 hb2 ho2
 have hz:w.heap.size<=w2.heap.size:=llt HB.o.size hb2.size
 obtain ⟨v3,w3,hj,hG⟩:=bytes_join 31 (zbe HO.o hb2) (own_base ho2 (Nat.zero_le _)) (by decide) hz
 have HB3:Hid (Below w.heap.size w w3):=(HB.o.trans (hb2.mono HB.o.size)).trans (hG.below hz (fun g hg=>by simp[Value.ownBlock] at hg;omega))
 have HG3:=zl (hG.own)
 clear hb2 ho2 hG hi HO HB hz
 have hbA:Below w3.heap.size w3 (w3.alloc (.cells #[.int .u8 sd,.int .u8 ty] 5)):=br.alloc nr _
 obtain ⟨v4,w4,hj4,hG4⟩:=bytes_join (m:=2) (ys:=[sd,ty]) 31 (zbe HG3.o hbA) (zft (base:=0) (e:=5) w3 #[.int .u8 sd,.int .u8 ty] 2 (Nat.zero_le _) rfl (by decide)) (by decide) (llt HB3.o.size hbA.size)
 have HB4:Hid (Below w.heap.size w w4):=(HB3.o.trans (hbA.mono HB3.o.size)).trans (hG4.below (llt HB3.o.size hbA.size) (fun g hg=>(HG3.o.lt g hg).1))
 have HG4:=zl (hG4.own)
 clear hbA hG4 HG3 HB3
 go_wp2_with (first|(at_builtin;refine Lib.wpList_append_run _ rfl _ _ _ _ rfl _ _ rfl rfl _ _ hj ?_)|(at_builtin;refine Lib.wpList_append_run _ rfl _ _ _ _ rfl _ _ rfl rfl _ _ hj4 ?_))
 clear hj hj4
 refine kNumber_any q w4 _ HQ.o.1 HQ.o.2 ?_
 intro v5 w5 hb5 ho5
 have hz5:w.heap.size<=w5.heap.size:=llt HB4.o.size hb5.size
 obtain ⟨v6,w6,hj,hG⟩:=bytes_join 31 (zbe HG4.o hb5) (own_base ho5 (Nat.zero_le _)) (by decide) hz5
 have HB6:Hid (Below w.heap.size w w6):=(HB4.o.trans (hb5.mono HB4.o.size)).trans (hG.below hz5 (fun g hg=>(HG4.o.lt g hg).1))
 have HG6:=zl (hG.own)
 clear hb5 ho5 hG HG4 HB4 hz5
 go_wp2_with (at_builtin;refine Lib.wpList_append_run _ rfl _ _ _ _ rfl _ _ rfl rfl _ _ hj ?_)
 clear hj
 refine kNumber_any p w6 _ HP.o.1 HP.o.2 ?_
 intro v7 w7 hb7 ho7
 have hz7:w.heap.size<=w7.heap.size:=llt HB6.o.size hb7.size
 obtain ⟨v8,w8,hj,hG⟩:=bytes_join 31 (zbe HG6.o hb7) (own_base ho7 (Nat.zero_le _)) (by decide) hz7
 have hfin:Hid (R (.returned v8) w8):=HR.o _ _ ((HB6.o.trans (hb7.mono HB6.o.size)).trans (hG.below hz7 (fun g hg=>(HG6.o.lt g hg).1))) hG.own
 clear hb7 ho7 hG HG6 HB6 hz7
 go_wp2_with (at_builtin;refine Lib.wpList_append_run _ rfl _ _ _ _ rfl _ _ rfl rfl _ _ hj ?_)
 exact hfin.o
theorem kSame_any (a1 a2:Option Addr)(n1 c1 n2 c2:Nat)(xs ys:Nat->Int)(w:World)(R:EW)(h1:n1<=1073741824)(h2:n2<=1073741824)
  (hx: ∀i,i<n1-> ∃b o,a1=some ⟨b,o,none⟩/\w.cell? ⟨b,o+i,none⟩=some (.int .u8 (xs i)))(hy: ∀i,i<n2-> ∃b o,a2=some ⟨b,o,none⟩/\w.cell? ⟨b,o+i,none⟩=some (.int .u8 (ys i)))
  (hR: ∀w',Below w.heap.size w w'->R (.returned (.bool (decide (n1=n2/\ ∀i,i<n1->xs i=ys i)))) w'):
  Calls Tryz.prog 21 #[.slice a1 n1 c1,.slice a2 n2 c2] w R:=by
 by_cases hn:n1=n2
 .subst hn
  go_enter Tryz.func21,Tryz.ntmps21
  go_wp2
  go_loopw [5] (fun i wr=> ∃k:Nat,k<=n1/\i= .int .i64 k/\(∀j,j<k->xs j=ys j)/\Below w.heap.size w wr) (fun i _=>n1-(intOf i).toNat)
  case atStart=>exact⟨0,Nat.zero_le _,rfl,fun j hj=>absurd hj (by omega),br⟩
  case round=>
   obtain ⟨k,hk,rfl,hj,hb⟩:=hrel
   by_cases hlt:k<n1
   .obtain ⟨b1,o1,rfl,gx0⟩:=hx k hlt
    obtain ⟨b2,o2,rfl,gy0⟩:=hy k hlt
    have gx:=(hb.cell (p:=⟨b1,o1+k,none⟩) (zab gx0)).trans gx0
    have gy:=(hb.cell (p:=⟨b2,o2+k,none⟩) (zab gy0)).trans gy0
    by_cases he:xs k=ys k
    .have hf:(xs k !=ys k)=false:=by simp[he]
     clear hx hy hR gx0 gy0
     go_wp2
     go_quiet (fail)
     go_wp2
     go_roundw
     case rel=>exact⟨k+1,by omega,by go_num,fun j hjk=>by rcases Nat.lt_succ_iff_lt_or_eq.1 hjk with h|h;exact hj j h;subst h;exact he,below_drewN hb _⟩
     case measure=>simp[intOf];omega
    .have hf:(xs k !=ys k)=true:=by simp[he]
     have hR':Hid (∀w',Below w.heap.size w w'->R (.returned (.bool false)) w'):=fun w' hb=>zam (hR w' hb) (by simp;exact⟨k,hlt,he⟩)
     clear hx hy hR gx0 gy0
     go_wp2
     go_quiet (fail)
     go_wp2
     exact hR'.o _ (below_drewN hb _)
   .have hR':Hid (∀w',Below w.heap.size w w'->R (.returned (.bool true)) w'):=fun w' hb=>zam (hR w' hb) (by simp;exact fun i hi=>hj i (by omega))
    clear hx hy hR hj
    go_wp2
    exact hR'.o _ hb
 .have hf:((n1:Int) !=n2)=true:=by simp;omega
  have hR':Hid (R (.returned (.bool false)) w):=zam (hR w br) (by simp[hn])
  clear hx hy hR
  go_enter Tryz.func21,Tryz.ntmps21
  go_wp2
  exact hR'.o
end
section
open Go.RowKit Go.Shelf
def evAt (E:List (Nat->Int)) (q:Nat):Nat->Int:=E.getD q fun _=>0
theorem allbytes_ev (E:List (Nat->Int)):za6 (evAt E) E.length=zao E:=by
 have h:(List.range E.length).map (evAt E)=E:=by
  apply List.ext_getElem?
  intro i
  by_cases h:i<E.length
  .simp[evAt,h,List.getD]
  .rw[List.getElem?_eq_none (by simpa using h),List.getElem?_eq_none (by omega)]
 unfold za6 zao
 conv=>rhs;rw[←h,List.flatMap_map]
def byteAt (l:List Int) (i:Nat):Int:=l.getD i 0
theorem lies_self (l:List Int):LiesAt (byteAt l) 0 l:=fun i _=>by rw[Nat.zero_add];rfl
variable {E:List (Nat->Int)}
theorem evAt_ok (h: ∀e∈E,okE e):(∀q,q<E.length->fits (evAt E q)=true)/\ ∀q j,-9223372036854775808<=evAt E q j/\evAt E q j<=9223372036854775807:=by
 refine⟨fun q hq=>?_,fun q j=>?_⟩
 .have:=h E[q] (List.getElem_mem hq)
  simpa [evAt,List.getD,hq] using this.1
 .by_cases hq:q<E.length
  .have:=(h E[q] (List.getElem_mem hq)).2 j
   simpa [evAt,List.getD,hq] using this
  .simp[evAt,List.getD,List.getElem?_eq_none (Nat.le_of_not_lt hq)]
theorem evbytes_byte (E:List (Nat->Int)): ∀i,i<(zao E).length->0<=byteAt (zao E) i/\byteAt (zao E) i<=255:=by
 have hb: ∀V n,∀x∈be V n,0<=x/\x<=255:=by
  intro V n
  induction n with
  |zero=>intro x hx;simp[be] at hx
  |succ n ih=>
   intro x hx
   simp only[be,List.mem_cons] at hx
   rcases hx with rfl|hx
   .omega
   .exact ih x hx
 have he: ∀x∈zao E,0<=x/\x<=255:=by
  intro x hx
  obtain ⟨e,_,hx⟩:=List.mem_flatMap.1 hx
  simp only[zdr,List.mem_append,List.mem_flatMap] at hx
  rcases hx with (hx|hx)|⟨f,_,hx⟩
  .exact hb _ _ x hx
  .exact hb _ _ x hx
  .exact hb _ _ x hx
 intro i hi
 have:=he (zao E)[i] (List.getElem_mem hi)
 simpa [byteAt,List.getD,hi] using this
theorem dcells_ev (h: ∀e∈E,okE e):zbp (byteAt (zao E)) E.length=evcs E:=by
 obtain ⟨h1,h2⟩:=evAt_ok h
 have hl:LiesAt (byteAt (zao E)) 0 (za6 (evAt E) E.length):=by rw[allbytes_ev];exact lies_self _
 obtain ⟨-,hg⟩:=lies_good (evAt E) _ E.length h1 (fun q=>h2 q 8) hl
 unfold zbp evcs
 have:(List.range E.length).map (fun q=>(List.range 10).map fun j=>iv (dev (byteAt (zao E)) (pos (byteAt (zao E)) q) j))=E.map evc:=by
  apply List.ext_getElem?
  intro q
  by_cases hq:q<E.length
  .simp only[List.getElem?_map,List.getElem?_range hq,Option.map_some,List.getElem?_eq_getElem hq,Option.some.injEq,evc]
   apply List.map_congr_left
   intro j hj
   rw[(hg q hq).2 j (by simpa using hj)]
   simp[evAt,List.getD,hq]
  .rw[List.getElem?_eq_none (by simpa using hq),List.getElem?_eq_none (by simpa using hq)]
 rw[List.flatMap_def,this,List.flatMap_def]
theorem read_ev (h: ∀e∈E,okE e){i:Nat}(hi: ∀q,q<i->good (byteAt (zao E)) (zao E).length q):
  (∀k,pos (byteAt (zao E)) i<(zao E).length->isK (byteAt (zao E) (pos (byteAt (zao E)) i))=k->(k=false\/(zao E).length<pos (byteAt (zao E)) i+elen (byteAt (zao E) (pos (byteAt (zao E)) i)))->False)/\
   (pos (byteAt (zao E)) i=(zao E).length->i=E.length):=by
 obtain ⟨h1,h2⟩:=evAt_ok h
 have hl:LiesAt (byteAt (zao E)) 0 (za6 (evAt E) E.length):=by rw[allbytes_ev];exact lies_self _
 obtain ⟨hp,hg⟩:=lies_good (evAt E) _ E.length h1 (fun q=>h2 q 8) hl
 rw[allbytes_ev] at hp hg
 have hne: ¬good (byteAt (zao E)) (zao E).length E.length:=fun hh=>by have:=hh.1;omega
 refine⟨fun k hlt hk hor=>?_,fun he=>?_⟩
 .have hni: ¬good (byteAt (zao E)) (zao E).length i:=fun hh=>by
   rcases hor with rfl|hor
   .have:=hh.2.1;rw[hk] at this;cases this
   .have:=hh.2.2;omega
  have:=first_unique _ _ i E.length hi (fun q hq=>(hg q hq).1) hni hne
  subst this
  omega
 .exact first_unique _ _ i E.length hi (fun q hq=>(hg q hq).1) (fun hh=>by have:=hh.1;omega) hne
variable {xs:List Value} {B c n size:Nat} {e:TypeId} {w:World}
theorem own_cellsK {base:Nat}{v:Value}(h:w.ownsRow base e size v n xs)(i:Nat)(u:Value)(hu:xs[i]?=some u):
  ∃g cap,v= .slice (some ⟨g,0,none⟩) n cap/\base<=g/\g<w.heap.size/\n<=cap/\w.cell? ⟨g,i,none⟩=some u/\w.frozen? ⟨g,i,none⟩=false:=by
 rcases h.2 with ⟨_,h0⟩|⟨g,cap,cur,hv,hb,hg,hnc,_,_,htake⟩
 .have:=h.1
  rw[h0] at this
  have:xs=[]:=List.eq_nil_of_length_eq_zero (by simpa using this)
  rw[this] at hu
  simp at hu
 .refine⟨g,cap,hv,hb,(gsi.1 hg).1,hnc,?_,?_⟩
  .rw[cell_of_row w g i cur e (0,0) hg]
   rw[←htake,List.getElem?_take] at hu
   split at hu
   .simpa using hu
   .cases hu
  .simp[World.frozen?,hg]
variable {a:Option Addr}
theorem bsAt_own {l:List Int}(h:w.ownsRow B 5 1 (.slice a n c) n (l.map bv)):BsAt w a n (byteAt l):=by
 intro i hi
 have hl:l.length=n:=by have:=h.1;simpa using this
 obtain ⟨g,cap,e,-,-,-,hc,-⟩:=own_cellsK h i (bv (byteAt l i)) (by simp[byteAt,List.getD,show i<l.length by omega])
 injection e with e1
 exact⟨g,0,e1,by rw[Nat.zero_add];exact hc⟩
theorem evsAt_own (h:w.ownsRow B 42 10 (.slice a E.length c) E.length (evcs E)):ze1 w a E.length (evAt E):=by
 intro i hi
 have hx: ∀j,j<10->(evcs E)[i * 10+j]?=some (iv (evAt E i j)):=by
  intro j hj
  have key: ∀(L:List (Nat->Int)) (i:Nat),i<L.length->(L.flatMap evc)[i * 10+j]?=some (iv (evAt L i j)):=by
   intro L
   induction L with
   |nil=>intro i hi;simp at hi
   |cons x L ih=>
    intro i hi
    rw[List.flatMap_cons]
    cases i with
    |zero=>
     rw[List.getElem?_append_left (by simp[evc];omega)]
     simp[evc,evAt,hj]
    |succ i=>
     rw[List.getElem?_append_right (by simp[evc];omega)]
     have:=ih i (by simpa using hi)
     rw[show (i+1) * 10+j-(evc x).length=i * 10+j by simp[evc];omega,this]
     rfl
  exact key E i hi
 obtain ⟨g,cap,e,-⟩:=own_cellsK h _ _ (hx 0 (by decide))
 injection e with e1
 refine⟨g,0,e1,fun j hj=>?_⟩
 obtain ⟨g',cap',e',-,-,-,hc,-⟩:=own_cellsK h _ _ (hx j hj)
 injection e' with e2
 rw[e1] at e2
 injection e2 with e2
 injection e2 with e2
 subst e2
 rw[Nat.zero_add]
 exact hc
theorem own_cap (h:w.ownsRow B e size (.slice a n c) n xs):n<=c:=by
 rcases h.2 with ⟨e1,e2⟩|⟨g,c',cur,e1,_,_,e4,_⟩
 .rw[e2];exact Nat.zero_le _
 .cases e1;exact e4
theorem Tch.low {F:Nat->Prop}{w':World}(h:Tch F w w')(hb:B<=w.heap.size)(hF: ∀g,F g->B<=g):Below B w w':=
 ⟨h.os,h.tape,h.output,h.size,fun k hk=>h.blk k (lll hk hb) fun e=>absurd (hF k e) (by omega)⟩
theorem kSent_any (P:Nat)(b:Bk)(c:Cf)(m:Mk)(a:Option Addr)(N cc:Nat)(Y:Nat->Nat)(w0 w:World)(R:EW)(h:PS w P b c m m.seq)
  (hL:zcq w0)(hb0:Below w0.heap.size w0 w)(hlow0: ∀g,Own P b g->w0.heap.size<=g)(hN:N<=1048576)(hcap:N<=cc)(hx:zgh w a N Y)(hY: ∀i,Y i<=255)(hal:0<N-> ∀g o,a=some ⟨g,o,none⟩->g<w.heap.size)
  (hl:m.all.length<=1048575)(hct:c.total<=1000000000)(hlv:zap m.all<=c.orders)(hco:c.orders<=24)(hok: ∀e∈(zaz c m Y N).out,okE e)(hle:(zaz c m Y N).out.length<=36)
  (hR: ∀b' v w',PS w' P b' c (zaz c m Y N) (zaz c m Y N).seq->Mv P w b w' b'->Evs w' w.heap.size v (zaz c m Y N).out->(∀g,Own P b' g->v.ownBlock≠some g)->R (.returned (.tuple #[v,.bool true])) w'):
  Calls Tryz.prog 23 #[.pointer (some ⟨P,0,none⟩),.slice a N cc] w R:=by
 have HR:=zl hR
 have HP:=zl h
 have HL:=zl3 hL hb0 hlow0
 have HX:=zl3 hx hY hal
 obtain ⟨E,hE⟩:=xq ((zaz c m Y N).out)
 rw[←hE] at hok hle
 have HE:=zl (hE.symm)
 have HOK:Hid (∀e∈E,okE e):=hok
 have hbl:=zk2 E
 clear hR h hL hb0 hlow0 hx hY hal hE hok
 go_enter Tryz.func23,Tryz.ntmps23
 go_wp2_with fail
 refine pSend_any P b c m a N cc Y w0 w _ HP.o HL.o.1 HL.o.2.1 HL.o.2.2 hN hcap HX.o.1 HX.o.2.1 HX.o.2.2 hl hct hlv (by omega) ?_
 intro b1 v1 w1 hP1 hM1 hv1 hs1
 rw[HE.o] at hv1
 have HP1:=zl hP1
 have HM1:=zl hM1
 have HS1:=zl hs1
 have HV1:=zl hv1
 have hz1:w.heap.size<=w1.heap.size:=hM1.tch.size
 obtain ⟨v2,w2,hj,hG⟩:=bytes_join (n:=0) (xs:=[]) 31 (World.ownsRow_nil w1 w1.heap.size 5 1) (own_base hv1 (Nat.zero_le _)) (by omega) nr
 have hb2:Below w1.heap.size w1 w2:=hG.below nr (fun g hg=>by simp[Value.ownBlock] at hg)
 have HB2:=zl hb2
 have HV2:Hid (w2.ownsRow w1.heap.size 5 1 v2 (zao E).length ((zao E).map bv)):=by have:=hG.own;simpa [Hid] using this
 obtain ⟨a1,c1,e1⟩:=zar hv1
 subst e1
 obtain ⟨a2,c2,e2⟩:=zar HV2.o
 subst e2
 clear hP1 hM1 hv1 hs1 hG hb2
 go_wp2_with (at_builtin;refine Lib.wpList_append_run _ rfl _ _ _ _ rfl _ _ rfl rfl _ _ hj ?_)
 clear hj
 have hb02:Below w0.heap.size w0 w2:=(HL.o.2.1.trans (HM1.o.tch.low HL.o.2.1.size HL.o.2.2)).trans (HB2.o.mono (llt HL.o.2.1.size hz1))
 have HL2:Hid (zcq w2):=zcq.below HL.o.1 hb02 nr
 have hc1:=own_cap HV1.o
 have HV12:Hid (BsAt w2 a1 (zao E).length (byteAt (zao E))):=bsAt_own (zbe HV1.o HB2.o)
 clear hb02
 refine Decode_any a1 (zao E).length c1 (byteAt (zao E)) w2 _ HL2.o (by omega) hc1 HV12.o (evbytes_byte E) ?_ ?_ ?_
 .intro i w' hg h1 h2 _
  exact((read_ev HOK.o hg).1 _ h1 h2 (.inl rfl)).elim
 .intro i w' hg h1 h2 h3 _
  exact((read_ev HOK.o hg).1 _ h1 h2 (.inr h3)).elim
 .intro i v3 w3 hg h1 hb3 hv3
  obtain rfl:=(read_ev HOK.o hg).2 h1
  rw[dcells_ev HOK.o] at hv3
  have HB3:=zl hb3
  have HV3:=zl hv3
  obtain ⟨a3,c3,e3⟩:=zar hv3
  subst e3
  have HL3:Hid (zcq w3):=zcq.below HL2.o hb3 nr
  clear hg h1 hb3 hv3
  go_wp2_with fail
  refine Encode_any a3 E.length c3 (evAt E) w3 _ HL3.o (by omega) (evsAt_own HV3.o) (evAt_ok HOK.o).2 ?_ ?_
  .intro i w' hi _ hf _
   rw[(evAt_ok HOK.o).1 i hi] at hf
   cases hf
  .intro v4 w4 _ hb4 hv4
   rw[allbytes_ev] at hv4
   obtain ⟨a4,c4,e4⟩:=zar hv4
   subst e4
   have HB4:=zl hb4
   have HV4:Hid (BsAt w4 a4 (zao E).length (byteAt (zao E))):=bsAt_own hv4
   have HV24:Hid (BsAt w4 a2 (zao E).length (byteAt (zao E))):=bsAt_own (zbe (zbe HV2.o HB3.o) hb4)
   clear hb4 hv4
   go_wp2_with fail
   refine kSame_any a4 a2 _ c4 _ c2 (byteAt (zao E)) (byteAt (zao E)) w4 _ (by omega) (by omega) HV4.o HV24.o ?_
   intro w5 hb5
   have hdec:decide ((zao E).length=(zao E).length/\ ∀i,i<(zao E).length->byteAt (zao E) i=byteAt (zao E) i)=true:=by simp
   rw[hdec]
   have hfin:Hid (R (.returned (.tuple #[.slice a3 E.length c3,.bool true])) w5):=by
    have hb25:Below w2.heap.size w2 w5:=HB3.o.trans ((HB4.o.mono HB3.o.size).trans (hb5.mono (llt HB3.o.size HB4.o.size)))
    have hb35:Below w3.heap.size w3 w5:=HB4.o.trans (hb5.mono HB4.o.size)
    have hb15:Below w1.heap.size w1 w5:=HB2.o.trans (hb25.mono HB2.o.size)
    refine HR.o b1 _ w5 (HP1.o.ext hb15) (HM1.o.trans (Mv.of hb15)) ?_ (fun g hg e=>?_)
    .rw[HE.o]
     exact zbe (own_base HV3.o (llt hz1 HB2.o.size)) hb35
    .have q1:=(HV3.o.lt g e).1
     have q2:=HP1.o.lt hg
     have:=HB2.o.size
     omega
   clear hb5 hdec
   go_wp2_with fail
   exact hfin.o
end
