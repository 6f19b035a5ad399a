import Derived.Test.YtmiiejinahnpkaaGreatDoorNk
set_option maxRecDepth 100000
set_option maxHeartbeats 20000000
namespace Go.Proofs.YtmiiejinahnpkaaGreatDoor
section
open Go.RowKit Go.Shelf
def Alike (m m':Mk):Prop:={m with out:=[]}={m' with out:=[]}
theorem Alike.send {m m':Mk}(h:Alike m m')(c:Cf)(Y:Nat->Nat)(N:Nat):zaz c m Y N=zaz c m' Y N:=by
 unfold zaz
 dsimp only
 rw[show ({m with out:=[]}:Mk)={m' with out:=[]} from h]
theorem send_tick (c:Cf)(m:Mk)(Y:Nat->Nat)(h:Y 0=4):zaz c m Y 5=zdu c {m with out:=[]} (num4 Y 1):=by
 unfold zaz
 dsimp only
 rw[show (if 0<5 then Y 0 else 0)=4 from h,if_neg (by omega),if_neg (by omega),if_neg (by omega),if_pos ⟨rfl,rfl⟩]
theorem yOf_tick (s:Int)(h0:0<=s)(h1:s<=4294967295):yOf (4::be s 4) 0=4/\num4 (yOf (4::be s 4)) 1=s.toNat:=by
 refine⟨rfl,?_⟩
 simp[num4,yOf,byteAt,be]
 omega
def Up (c:Cf) (t:Nat) (z:Mk) (A:List (Nat->Int)) (m:Mk):Prop:={zdu c {m with out:=[]} t with out:=A++(zdu c {m with out:=[]} t).out}=z
theorem Up.start {c:Cf}{t:Nat}{m m':Mk}(h:Alike m m'):Up c t (zdu c {m with out:=[]} t) [] m':=by
 unfold Up
 rw[←show ({m with out:=[]}:Mk)={m' with out:=[]} from h]
 simp
theorem Up.step {c:Cf}{t s:Nat}{z:Mk}{A:List (Nat->Int)}{m:Mk}(h:Up c t z A m)(hs:s<=t):Up c t z (A++(zdu c {m with out:=[]} s).out) (zdu c {m with out:=[]} s):=by
 have:=tick_again c m s t hs
 dsimp only at this
 unfold Up at h ⊢
 rw[←h,←this]
 simp
theorem Up.len {c:Cf}{t:Nat}{z:Mk}{A:List (Nat->Int)}{m:Mk}(h:Up c t z A m):A.length<=z.out.length:=by
 unfold Up at h
 rw[←h]
 simp
theorem Up.last {c:Cf}{t:Nat}{z:Mk}{A:List (Nat->Int)}{m:Mk}(h:Up c t z A m):zao z.out=zao A++zao (zdu c {m with out:=[]} t).out/\Alike z (zdu c {m with out:=[]} t):=by
 unfold Up at h
 rw[←h]
 exact⟨by simp[zao],rfl⟩
theorem tick_all (s:Int):((4::be s 4).all fun x=>decide (0<=x/\x<=255))=true:=by
 simp[be]
 omega
theorem cross_lenK (p f v:Nat)(m:Mk):(zbg p f v m).all.length=m.all.length:=by
 induction f generalizing v m with
 |zero=>rfl
 |succ f ih=>
  unfold zbg
  split
  .rfl
  .dsimp only
   rw[ih]
   simp[za3,zax,zaf]
theorem sweep_lenK (n:Nat)(m:Mk):(zai n m).all.length=m.all.length:=by
 induction n with
 |zero=>rfl
 |succ n ih=>
  unfold zai
  dsimp only
  split
  .simp[zav,zaf,ih]
  .exact ih
theorem turn_lenK (m:Mk):(zbj m).all.length=m.all.length:=by
 rw[turn_end]
 dsimp only
 have key: ∀m2:Mk,(endMK m2).all.length=m2.all.length:=by
  intro m2
  unfold endMK
  dsimp only
  have: ∀m4:Mk,(if m4.phase=2 then zah m4 6 else m4).all=m4.all:=fun m4=>by split<;>rfl
  rw[this,sweep_lenK]
  rfl
 rw[key]
 show (if m.phase≠1 then _ else m).all.length=_
 split
 .rw[cross_lenK];rfl
 .rfl
theorem turns_lenK (c:Cf)(t f:Nat)(m:Mk):(za2 c t f m).all.length=m.all.length:=by
 induction f generalizing m with
 |zero=>rfl
 |succ f ih=>
  unfold za2
  split
  .rw[ih,turn_lenK]
  .rfl
theorem tick_lenK (c:Cf)(t:Nat)(m:Mk):(zdu c m t).all.length=m.all.length:=by
 unfold zdu
 split
 .rfl
 .rw[turns_lenK]
theorem evbytes_app (A B:List (Nat->Int)):zao (A++B)=zao A++zao B:=by simp[zao]
theorem Km.other {w0 w w':World}{P P':Nat}{b b' b'':Bk}{c:Cf}{m:Mk}{k:Nat}(h:Km w0 w P b c m k)(hm:Mv P' w b' w' b'')(hd: ∀g,Own P b g-> ¬Own P' b' g)(hl: ∀g,Own P' b' g->w0.heap.size<=g):Km w0 w' P b c m k:=
 ⟨h.ps.keep fun g hg=>hm.tch.blk g (h.ps.lt hg) (hd g hg),h.low,h.bel.trans (hm.tch.low h.bel.size hl),h.ct,h.co,h.lv,h.ids,h.len⟩
theorem apart_step {w w':World}{P P':Nat}{b b' b'':Bk}(hlt: ∀g,Own P b g->g<w.heap.size)(hd: ∀g,Own P b g-> ¬Own P' b' g)(hm:Mv P' w b' w' b''): ∀g,Own P b g-> ¬Own P' b'' g:=by
 rintro g hg (e|e)
 .exact hd g hg (.inl e)
 .rcases hm.bf g e with h|h
  .exact hd g hg (.inr h)
  .exact absurd (hlt g hg) (by omega)
theorem Km.more {w0 w:World}{P:Nat}{b:Bk}{c:Cf}{m:Mk}{k k':Nat}(h:Km w0 w P b c m k)(hk:k<=k'):Km w0 w P b c m k':=⟨h.ps,h.low,h.bel,h.ct,h.co,h.lv,h.ids,llt h.len hk⟩
structure Tk (w wr:World) (P:Nat) (b:Bk) (c:Cf) (m:Mk) (k:Nat) (P':Nat) (b':Bk) (m':Mk) (k':Nat) (va:Value) (la:Nat) (xa:List Int) (vb:Value) (lb:Nat) (xb:List Int):Prop where
 kx:Km w wr P b c m k
 ky:Km w wr P' b' c m' k'
 dj: ∀g,Own P b g-> ¬Own P' b' g
 ra:wr.ownsRow w.heap.size 5 1 va la (xa.map bv)
 rb:wr.ownsRow w.heap.size 5 1 vb lb (xb.map bv)
 pa: ∀g,va.ownBlock=some g-> ¬Own P b g/\ ¬Own P' b' g/\vb.ownBlock≠some g
 pb: ∀g,vb.ownBlock=some g-> ¬Own P b g/\ ¬Own P' b' g
section
variable {w wr w':World} {P P' k k' k2 la lb:Nat} {b b' b2:Bk} {c:Cf} {m m' m2:Mk} {va vb:Value} {xa xb:List Int}
theorem Tk.ext (h:Tk w wr P b c m k P' b' m' k' va la xa vb lb xb)(hb:Below wr.heap.size wr w'):Tk w w' P b c m k P' b' m' k' va la xa vb lb xb:=
 ⟨h.kx.ext hb,h.ky.ext hb,h.dj,zbe h.ra hb,zbe h.rb hb,h.pa,h.pb⟩
theorem Tk.sent (h:Tk w wr P b c m k P' b' m' k' va la xa vb lb xb)(hm:Mv P' wr b' w' b2)(hy:Km w w' P' b2 c m2 k2):Tk w w' P b c m k P' b2 m2 k2 va la xa vb lb xb:=by
 have nw: ∀g,g<wr.heap.size-> ¬Own P' b' g-> ¬Own P' b2 g:=by
  rintro g hg hn (e|e)
  .exact hn (.inl e)
  .rcases hm.bf g e with q|q
   .exact hn (.inr q)
   .omega
 exact⟨h.kx.other hm h.dj h.ky.low,hy,apart_step (fun g hg=>h.kx.ps.lt hg) h.dj hm,
  zb6 h.ra fun g hg=>hm.tch.blk g (h.ra.lt g hg).2 (h.pa g hg).2.1,zb6 h.rb fun g hg=>hm.tch.blk g (h.rb.lt g hg).2 (h.pb g hg).2,
  fun g hg=>⟨(h.pa g hg).1,nw g (h.ra.lt g hg).2 (h.pa g hg).2.1,(h.pa g hg).2.2⟩,fun g hg=>⟨(h.pb g hg).1,nw g (h.rb.lt g hg).2 (h.pb g hg).2⟩⟩
theorem Km.grown {P:Nat}{b:Bk}{c:Cf}{m:Mk}{k:Nat}(h:Km w wr P b c m k){v:Value}(hg:wr.grownBy w' v.ownBlock)(hv: ∀g,v.ownBlock=some g-> ¬Own P b g/\w.heap.size<=g):Km w w' P b c m k:=by
 refine⟨h.ps.keep fun g hg'=>hg.block g (h.ps.lt hg') fun e=>(hv g e.symm).1 hg',h.low,h.bel.trans ⟨hg.os,hg.tape,hg.output,hg.size,fun g hg'=>hg.block g (lll hg' h.bel.size) fun e=>?_⟩,h.ct,h.co,h.lv,h.ids,h.len⟩
 have:=(hv g e.symm).2
 omega
theorem Tk.join (h:Tk w wr P b c m k P' b' m' k' va la xa vb lb xb){vb':Value}{lv:Nat}{xv:List Int}(hG:Grew w.heap.size 5 1 wr vb w' vb' (lb+lv) ((xb++xv).map bv)):Tk w w' P b c m k P' b' m' k' va la xa vb' (lb+lv) (xb++xv):=by
 have h1:=h.kx.grown hG.grown (fun g e=>⟨(h.pb g e).1,(h.rb.lt g e).1⟩)
 have h2:=h.ky.grown hG.grown (fun g e=>⟨(h.pb g e).2,(h.rb.lt g e).1⟩)
 refine⟨h1,h2,h.dj,zb6 h.ra fun g hg=>hG.grown.block g (h.ra.lt g hg).2 fun e=>(h.pa g hg).2.2 e.symm,hG.own,fun g hg=>⟨(h.pa g hg).1,(h.pa g hg).2.1,fun e=>?_⟩,fun g hg=>?_⟩
 .rcases hG.lies with q|q
  .exact(h.pa g hg).2.2 (q▸e)
  .exact absurd (h.ra.lt g hg).2 (by have:=q g e;omega)
 .rcases hG.lies with q|q
  .exact h.pb g (q▸hg)
  .have:=q g hg
   exact⟨fun e=>absurd (h.kx.ps.lt e) (by omega),fun e=>absurd (h.ky.ps.lt e) (by omega)⟩
end
def npre (Y:Nat->Nat):Nat->Nat
 |0=>0
 |j+1=>npre Y j * 256+Y (j+1)
theorem npre_lt (Y:Nat->Nat)(h: ∀i,Y i<=255)(j:Nat):npre Y j<256^j:=by
 induction j with
 |zero=>simp[npre]
 |succ j ih=>
  have:=h (j+1)
  rw[npre,Nat.pow_succ]
  omega
theorem npre_four (Y:Nat->Nat):npre Y 4=num4 Y 1:=by simp[npre,num4]
end
section
open Go.RowKit Go.Shelf
theorem kSend_any {w0 w:World}{P:Nat}{b:Bk}{c:Cf}{m:Mk}{k:Nat}(a:Option Addr)(N cc:Nat)(Y:Nat->Nat)(R:EW)(h:Km w0 w P b c m k)(hk:k<=1048575)(hL:zcq w0)(hN:N<=1048576)(hcap:N<=cc)(hx:zgh w a N Y)(hY: ∀i,Y i<=255)(hal:0<N-> ∀g o,a=some ⟨g,o,none⟩->g<w.heap.size)
  (hR: ∀b' v w',Km w0 w' P b' c (zaz c m Y N) (k+1)->Mv P w b w' b'->w'.ownsRow w.heap.size 5 1 v (zao (zaz c m Y N).out).length ((zao (zaz c m Y N).out).map bv)->(∀g,Own P b' g->v.ownBlock≠some g)->(zaz c m Y N).out.length<=36->R (.returned v) w'):
  Calls Tryz.prog 31 #[.pointer (some ⟨P,0,none⟩),.slice a N cc] w R:=by
 have hl:=h.len
 have hco:=h.co
 exact pSend_any P b c m a N cc Y w0 w R h.ps hL h.bel h.low hN hcap hx hY hal (by omega) h.ct h.lv (by omega) fun b' v w' hp hm hv hs=>hR b' v w' (h.sent hY hk hp hm) hm hv hs (h.ok hY hk).2
def NumsAt (w:World) (a:Option Addr) (n:Nat) (T:Nat->Int):Prop:= ∀i,i<n-> ∃g o,a=some ⟨g,o,none⟩/\w.cell? ⟨g,o+i,none⟩=some (.int .i64 (T i))
theorem Ticks_any (x:Nat->Int)(sa:Option Addr)(n cs:Nat)(A:Nat->Option Addr)(N C:Nat->Nat)(Y:Nat->Nat->Nat)(ta:Option Addr)(nt ct:Nat)(T:Nat->Int)(w:World)(R:EW)(hn:n<=1048575)(hnt:nt<=1048576)(hL:zcq w)(hC:CmdsAt w sa n A N C Y)(hT:NumsAt w ta nt T)
  (hR: ∀w',Below w.heap.size w w'->R (.returned (.bool true)) w'):Calls Tryz.prog 11 #[cfx x,.slice sa n cs,.slice ta nt ct] w R:=by
 have HR:=zl hR
 have HL:=zl hL
 have HC:=zl hC
 have HT:=zl hT
 clear hR hL hC hT
 unfold cfx
 go_enter Tryz.func11,Tryz.ntmps11
 go_wp2_with fail
 obtain ⟨w1,hw1⟩:=xq (w.alloc (.cells #[.int .i64 (x 0),.int .i64 (x 1),.int .i64 (x 2),.int .i64 (x 3),.int .i64 (x 4),.int .i64 (x 5)] 46))
 obtain ⟨G,hG⟩:=xq w.heap.size
 have HB1:Hid (Below w.heap.size w w1):=by rw[hw1];exact br.alloc nr _
 have HZ1:Hid (w1.heap[G]?=some (.cells #[.int .i64 (x 0),.int .i64 (x 1),.int .i64 (x 2),.int .i64 (x 3),.int .i64 (x 4),.int .i64 (x 5)] 46 (0,0))):=by rw[hw1,hG];exact heap_alloc_new w _
 rw[←hw1,←hG]
 clear hw1 hG
 refine kOpened_any x w1 _ (zcq.below HL.o HB1.o nr) ?_ ?_
 .intro _ w2 hb2
  have hfin:Hid (R (.returned (.bool true)) w2):=HR.o w2 (HB1.o.trans (hb2.mono HB1.o.size))
  clear hb2
  go_wp2_with fail
  exact hfin.o
 .intro hok P b w2 hb2 ho2 hp2
  have HK2:Hid (Km w w2 P b (cfOf x) (newM (cfOf x)) 0):=Km.new hok (HB1.o.trans (hb2.mono HB1.o.size)) (fun g hg=>llt HB1.o.size (ho2 g hg)) hp2
  have HZ2:Hid (w2.heap[G]?=some (.cells #[.int .i64 (x 0),.int .i64 (x 1),.int .i64 (x 2),.int .i64 (x 3),.int .i64 (x 4),.int .i64 (x 5)] 46 (0,0))):=zau hb2 HZ1.o
  have c0:w2.cell? ⟨G,0,none⟩=some (.int .i64 (x 0)):=cell_of_row w2 G 0 _ _ (0,0) HZ2.o
  have c1:w2.cell? ⟨G,1,none⟩=some (.int .i64 (x 1)):=cell_of_row w2 G 1 _ _ (0,0) HZ2.o
  have c2:w2.cell? ⟨G,2,none⟩=some (.int .i64 (x 2)):=cell_of_row w2 G 2 _ _ (0,0) HZ2.o
  have c3:w2.cell? ⟨G,3,none⟩=some (.int .i64 (x 3)):=cell_of_row w2 G 3 _ _ (0,0) HZ2.o
  have c4:w2.cell? ⟨G,4,none⟩=some (.int .i64 (x 4)):=cell_of_row w2 G 4 _ _ (0,0) HZ2.o
  have c5:w2.cell? ⟨G,5,none⟩=some (.int .i64 (x 5)):=cell_of_row w2 G 5 _ _ (0,0) HZ2.o
  clear hb2 ho2 hp2
  go_wp2_with fail
  clear c0 c1 c2 c3 c4 c5
  refine pNew_any x w2 _ (fun h=>absurd hok h) ?_
  intro _ P' b' w3 hb3 ho3 hp3
  have HK3:=zl (HK2.o.ext hb3)
  have HY3:Hid (Km w w3 P' b' (cfOf x) (newM (cfOf x)) 0):=Km.new hok (HK2.o.bel.trans (hb3.mono HK2.o.bel.size)) (fun g hg=>llt HK2.o.bel.size (ho3 g hg)) hp3
  have HD3:Hid (∀g,Own P b g-> ¬Own P' b' g):=fun g hg e=>absurd (HK2.o.ps.lt hg) (by have:=ho3 g e;omega)
  generalize cfOf x=c at *
  clear hok hb3 ho3 hp3
  go_wp2_with fail
  go_loopw [11,12,13,14,15,16,17] (fun t _ _ _ _ _ _ wr=> ∃(k:Nat) (b b':Bk) (m m':Mk),k<=n/\t= .int .i64 k/\Km w wr P b c m k/\Km w wr P' b' c m' k/\(∀g,Own P b g-> ¬Own P' b' g)/\Alike m m') (fun t _ _ _ _ _ _ _=>n-(intOf t).toNat)
  case atStart=>exact⟨0,b,b',_,_,Nat.zero_le _,rfl,HK3.o,HY3.o,HD3.o,rfl⟩
  case round=>
   clear HK2 HK3 HY3 HD3 b b' HZ2
   obtain ⟨k,b,b',m,m',hk,rfl,hK,hY,hD,hAl⟩:=hrel
   have HK:=zl hK
   have HY:=zl hY
   have HD:Hid ((∀g,Own P b g-> ¬Own P' b' g)/\Alike m m'):=⟨hD,hAl⟩
   clear hK hY hD hAl
   by_cases hlt:k<n
   .obtain ⟨g,o,rfl,hc⟩:=HC.o.cell k hlt
    have hcr:=(HK.o.bel.cell (zab hc)).trans hc
    have HCC:Hid (∀{w':World},Below w.heap.size w w'->w'.cell? ⟨g,o+k,none⟩=some (.slice (A k) (N k) (C k))):=fun {w'} hb=>(hb.cell (zab hc)).trans hc
    have hk0:(0:Int)<=(k:Int):=by omega
    have hk1:(k:Int)<(n:Int):=by omega
    clear hc
    have HCk:Hid ((N k<=1048576/\N k<=C k)/\zgh w (A k) (N k) (Y k)/\(∀i,Y k i<=255)/\(0<N k-> ∀g o,A k=some ⟨g,o,none⟩->g<w.heap.size)):=⟨HC.o.len k hlt,HC.o.bs k hlt,HC.o.byt k,HC.o.low k hlt⟩
    generalize A k=ak at *
    generalize N k=nk at *
    generalize C k=ck at *
    go_wp2_with fail
    have hlen:=HCk.o.1
    refine kSend_any ak nk ck (Y k) _ HK.o (by omega) HL.o hlen.1 hlen.2 (HCk.o.2.1.ext HK.o.bel) HCk.o.2.2.1 (fun h0 g o e=>lll (HCk.o.2.2.2 h0 g o e) HK.o.bel.size) ?_
    intro b4 v4 w4 hK4 hm4 hv4 _ h36
    obtain ⟨M,hM⟩:=xq (zaz c m (Y k) nk)
    rw[←hM] at hK4 hv4 h36
    have HM:=zl hM
    have hel:=zk2 M.out
    obtain ⟨v5,w5,hj,hG⟩:=bytes_join (n:=0) (xs:=[]) 31 (World.ownsRow_nil w4 w4.heap.size 5 1) (own_base hv4 (Nat.zero_le _)) (by omega) nr
    have hb5:Below w4.heap.size w4 w5:=hG.below nr (fun g hg=>by simp[Value.ownBlock] at hg)
    have hY4:Km w w4 P' b' c m' k:=HY.o.other hm4 (fun g hg e=>HD.o.1 g e hg) HK.o.low
    have hD4: ∀g,Own P b4 g-> ¬Own P' b' g:=fun g hg e=>apart_step (fun q hq=>HY.o.ps.lt hq) (fun q hq e=>HD.o.1 q e hq) hm4 g e hg
    have HT5:Hid (Tk w w5 P b4 c M (k+1) P' b' m' k v5 (zao M.out).length (zao M.out) (.slice none 0 0) 0 []):=by
     have hro:w5.ownsRow w4.heap.size 5 1 v5 (zao M.out).length ((zao M.out).map bv):=by have:=hG.own;simpa using this
     refine⟨hK4.ext hb5,hY4.ext hb5,hD4,own_base hro hK4.bel.size,World.ownsRow_nil _ _ _ _,fun g hg=>⟨fun e=>?_,fun e=>?_,by simp[Value.ownBlock]⟩,fun g hg=>by simp[Value.ownBlock] at hg⟩
     .exact absurd (hK4.ps.lt e) (by have:=(hro.lt g hg).1;omega)
     .exact absurd (hY4.ps.lt e) (by have:=(hro.lt g hg).1;omega)
    obtain ⟨a5,c5,e5⟩:=zar HT5.o.ra
    subst e5
    have hcm:=HCC.o HT5.o.kx.bel
    have HAl:=zl (HD.o.2)
    clear hK4 hm4 hv4 hM hG hb5 hY4 hD4 HK HY HD hcr
    by_cases hn5:nk=5
    .subst hn5
     obtain ⟨gb,ob,rfl,hcb⟩:=(HCk.o.2.1.ext HT5.o.kx.bel) 0 (by omega)
     have HBy:Hid (∀q,q<5->w5.cell? ⟨gb,ob+q,none⟩=some (.int .u8 (Y k q:Nat))):=fun q hq=>by
      obtain ⟨g',o',h',e'⟩:=(HCk.o.2.1.ext HT5.o.kx.bel) q (by omega)
      injection h' with h'
      injection h' with h1 h2
      subst h1
      subst h2
      exact e'
     rw[Nat.add_zero] at hcb
     by_cases hy4:Y k 0=4
     .rw[hy4] at hcb
      go_wp2_with (at_builtin;refine Lib.wpList_append_run _ rfl _ _ _ _ rfl _ _ rfl rfl _ _ hj ?_)
      clear hj hcb
      have HMt:Hid (M=zdu c {m with out:=[]} (num4 (Y k) 1)):=HM.o.trans (send_tick c m (Y k) hy4)
      go_loop [14,15] (fun t i=> ∃y:Nat,y<=4/\i= .int .i64 (y+1:Nat)/\t= .int .i64 (npre (Y k) y:Nat)) (fun _ i=>5-(intOf i).toNat)
      case atStart=>exact⟨0,by omega,rfl,rfl⟩
      case round=>
       obtain ⟨y,hy,rfl,rfl⟩:=hrel
       by_cases hy5:y<4
       .have f:=HBy.o (y+1) (by omega)
        have hx:=HCk.o.2.2.1 (y+1)
        have hp:=npre_lt (Y k) HCk.o.2.2.1 (y+1)
        have hle:256^(y+1)<=4294967296:=by rcases (show y=0\/y=1\/y=2\/y=3 by omega) with rfl|rfl|rfl|rfl<;>decide
        have hn1:npre (Y k) (y+1)=npre (Y k) y * 256+Y k (y+1):=rfl
        obtain ⟨q1,hq1⟩:=xq (npre (Y k) (y+1))
        obtain ⟨q0,hq0⟩:=xq (npre (Y k) y)
        obtain ⟨yy,hyy⟩:=xq (Y k (y+1))
        rw[←hyy] at f hx hn1
        rw[←hq1] at hp hn1
        rw[←hq0] at hn1
        rw[←hq0]
        have HQ1:=zl (hq1.symm)
        have hq:(q0:Int) * 256+(yy:Int)=(q1:Int):=by omega
        have hqb:(q1:Int)<=4294967295:=by omega
        have hqc:(q0:Int)<=4294967295:=by omega
        clear hp hle hn1 hq1 hq0 hyy
        go_wp2_with fail
        go_round
        case rel=>exact⟨y+1,by omega,by go_num,by rw[HQ1.o]⟩
        case measure=>simp only[intOf];omega
       .obtain rfl:y=4:=by omega
        obtain ⟨tt,htt⟩:=xq (num4 (Y k) 1)
        have hnp:npre (Y k) 4=tt:=by rw[htt];exact npre_four (Y k)
        have htb:tt<=4294967295:=by have:=npre_lt (Y k) HCk.o.2.2.1 4;rw[hnp] at this;omega
        have HTt:=zl htt
        have HUp:Hid (Up c tt M [] m'):=by rw[HMt.o,htt];exact Up.start HAl.o
        rw[hnp]
        clear htt hnp
        go_wp2_with fail
        go_loopw [13,16] (fun u t wr=> ∃(j:Nat) (bz:Bk) (mz:Mk) (Az:List (Nat->Int)),j<=nt/\t= .int .i64 j/\Tk w wr P b4 c M (k+1) P' bz mz k (.slice a5 (zao M.out).length c5) (zao M.out).length (zao M.out) u (zao Az).length (zao Az)/\Up c tt M Az mz) (fun _ t _=>nt-(intOf t).toNat)
        case atStart=>exact⟨0,b',m',[],Nat.zero_le _,rfl,HT5.o,HUp.o⟩
        case round=>
         clear HUp hcm
         obtain ⟨j,bz,mz,Az,hj,rfl,hTz,hUz⟩:=hrel
         have HTz:=zl hTz
         have HUz:=zl hUz
         have HLB:Hid ((zao Az).length<=1440):=llt (zk2 Az) (by have:=hUz.len;omega)
         clear hTz hUz
         by_cases hjl:j<nt
         .obtain ⟨gt,ot,rfl,ht⟩:=HT.o j hjl
          have htc:=(HTz.o.kx.bel.cell (zab ht)).trans ht
          generalize T j=tj at htc ht
          have hj0:(0:Int)<=(j:Int):=by omega
          have hj1:(j:Int)<(nt:Int):=by omega
          clear ht
          by_cases h0:0<=tj
          .by_cases h1:tj<=(tt:Int)
           .go_wp2_with fail
            refine kTick_any tj wr _ h0 (by omega) ?_
            intro v6 w6 hb6 hv6
            obtain ⟨a6,c6,rfl,hc6,hx6,hy6,ha6⟩:=cmd_own (l:=4::be tj 4) hv6 (tick_all tj)
            have HT6:=zl (HTz.o.ext hb6)
            have HX6:Hid (5<=c6/\zgh w6 a6 5 (yOf (4::be tj 4))/\(∀i,yOf (4::be tj 4) i<=255)/\ ∀g o,a6=some ⟨g,o,none⟩->g<w6.heap.size):=⟨hc6,hx6,hy6,ha6⟩
            clear hb6 hv6 hc6 hx6 hy6 ha6
            go_wp2_with fail
            refine kSend_any a6 5 c6 (yOf (4::be tj 4)) _ HT6.o.ky (by omega) HL.o (by decide) HX6.o.1 HX6.o.2.1 HX6.o.2.2.1 (fun _=>HX6.o.2.2.2) ?_
            intro b7 v7 w7 hK7 hm7 hv7 _ _
            have hst:zaz c mz (yOf (4::be tj 4)) 5=zdu c {mz with out:=[]} tj.toNat:=by rw[send_tick c mz _ (yOf_tick tj h0 (by omega)).1,(yOf_tick tj h0 (by omega)).2]
            rw[hst] at hK7 hv7
            have HU7:Hid (Up c tt M (Az++(zdu c {mz with out:=[]} tj.toNat).out) (zdu c {mz with out:=[]} tj.toNat)):=HUz.o.step (by omega)
            have hK7':Km w w7 P' b7 c (zdu c {mz with out:=[]} tj.toNat) k:=⟨hK7.ps,hK7.low,hK7.bel,hK7.ct,hK7.co,hK7.lv,hK7.ids,by rw[tick_lenK];exact HT6.o.ky.len⟩
            have hT7:=HT6.o.sent hm7 hK7'
            have hl7:(zao (Az++(zdu c {mz with out:=[]} tj.toNat).out)).length<=1440:=llt (zk2 _) (by have:=HU7.o.len;omega)
            rw[evbytes_app,List.length_append] at hl7
            obtain ⟨v8,w8,hjn,hG⟩:=bytes_join 31 hT7.rb (own_base hv7 (Nat.zero_le _)) (by omega) hT7.kx.bel.size
            have HT8:Hid (Tk w w8 P b4 c M (k+1) P' b7 (zdu c {mz with out:=[]} tj.toNat) k (.slice a5 (zao M.out).length c5) (zao M.out).length (zao M.out) v8 (zao (Az++(zdu c {mz with out:=[]} tj.toNat).out)).length (zao (Az++(zdu c {mz with out:=[]} tj.toNat).out))):=by
             have:=hT7.join hG
             rw[evbytes_app,List.length_append]
             exact this
            clear hK7 hm7 hv7 hst hK7' hT7 hl7 hG
            go_wp2_with (at_builtin;refine Lib.wpList_append_run _ rfl _ _ _ _ rfl _ _ rfl rfl _ _ hjn ?_)
            go_roundw
            case rel=>exact⟨j+1,b7,_,_,by omega,by go_num,HT8.o,HU7.o⟩
            case measure=>simp only[intOf];omega
           .go_wp2_with fail
            go_roundw
            case rel=>exact⟨j+1,bz,mz,Az,by omega,by go_num,HTz.o,HUz.o⟩
            case measure=>simp only[intOf];omega
          .go_wp2_with fail
           go_roundw
           case rel=>exact⟨j+1,bz,mz,Az,by omega,by go_num,HTz.o,HUz.o⟩
           case measure=>simp only[intOf];omega
         .have hjn:j=nt:=by omega
          subst hjn
          have hcm:=HCC.o HTz.o.kx.bel
          have HE:Hid (zao M.out=zao Az++zao (zaz c mz (Y k) 5).out/\Alike M (zaz c mz (Y k) 5)):=by
           rw[send_tick c mz (Y k) hy4,←HTt.o]
           exact HUz.o.last
          go_wp2_with fail
          refine kSend_any (some ⟨gb,ob,none⟩) 5 ck (Y k) _ HTz.o.ky (by omega) HL.o hlen.1 hlen.2 (HCk.o.2.1.ext HTz.o.ky.bel) HCk.o.2.2.1 (fun h0 g o e=>lll (HCk.o.2.2.2 h0 g o e) HTz.o.ky.bel.size) ?_
          intro b8 v8 w8 hK8 hm8 hv8 _ _
          have HT8:=zl (HTz.o.sent hm8 hK8)
          have hle:(zao Az).length+(zao (zaz c mz (Y k) 5).out).length=(zao M.out).length:=by rw[←List.length_append,←HE.o.1]
          obtain ⟨v9,w9,hj,hG⟩:=bytes_join 31 HT8.o.rb (own_base hv8 (Nat.zero_le _)) (by have hlb:=HLB.o;omega) HT8.o.kx.bel.size
          have HT9:Hid (Tk w w9 P b4 c M (k+1) P' b8 (zaz c mz (Y k) 5) (k+1) (.slice a5 (zao M.out).length c5) (zao M.out).length (zao M.out) v9 (zao M.out).length (zao M.out)):=by
           have:=HT8.o.join hG
           rw[←HE.o.1,show (zao Az).length+(zao (zaz c mz (Y k) 5).out).length=(zao M.out).length by have hlb:=HLB.o;omega] at this
           exact this
          obtain ⟨a9,c9,e9⟩:=zar HT9.o.rb
          subst e9
          clear hK8 hm8 hv8 hG hle
          go_wp2_with (at_builtin;refine Lib.wpList_append_run _ rfl _ _ _ _ rfl _ _ rfl rfl _ _ hj ?_)
          clear hj
          refine kSame_any a5 a9 _ c5 _ c9 (byteAt (zao M.out)) (byteAt (zao M.out)) w9 _ (by omega) (by omega) (bsAt_own HT9.o.ra) (bsAt_own HT9.o.rb) ?_
          intro w10 hb10
          rw[show decide ((zao M.out).length=(zao M.out).length/\ ∀i,i<(zao M.out).length->byteAt (zao M.out) i=byteAt (zao M.out) i)=true by simp]
          have HT10:=HT9.o.ext hb10
          have HQ:Hid (Km w w10 P b4 c M (k+1)/\Km w w10 P' b8 c (zaz c mz (Y k) 5) (k+1)/\(∀g,Own P b4 g-> ¬Own P' b8 g)/\Alike M (zaz c mz (Y k) 5)):=⟨HT10.kx,HT10.ky,HT10.dj,HE.o.2⟩
          clear hb10 HT10
          go_wp2_with fail
          go_roundw
          case rel=>exact⟨k+1,b4,b8,M,_,by omega,by go_num,HQ.o.1,HQ.o.2.1,HQ.o.2.2.1,HQ.o.2.2.2⟩
          case measure=>simp only[intOf];omega
     .obtain ⟨yb,hyb⟩:=xq (Y k 0)
      rw[←hyb] at hcb
      have hY4':((yb:Int)==4)=false:=by simp;omega
      clear hyb
      have HE:Hid (zao M.out=([]:List Int)++zao (zaz c m' (Y k) 5).out/\Alike M (zaz c m' (Y k) 5)):=by rw[←HAl.o.send c (Y k) 5,←HM.o];exact⟨rfl,rfl⟩
      go_wp2_with (at_builtin;refine Lib.wpList_append_run _ rfl _ _ _ _ rfl _ _ rfl rfl _ _ hj ?_)
      clear hj hcb
      refine kSend_any (some ⟨gb,ob,none⟩) 5 ck (Y k) _ HT5.o.ky (by omega) HL.o hlen.1 hlen.2 (HCk.o.2.1.ext HT5.o.ky.bel) HCk.o.2.2.1 (fun h0 g o e=>lll (HCk.o.2.2.2 h0 g o e) HT5.o.ky.bel.size) ?_
      intro b8 v8 w8 hK8 hm8 hv8 _ _
      have HT8:=zl (HT5.o.sent hm8 hK8)
      have hle:(([]:List Int)).length+(zao (zaz c m' (Y k) 5).out).length=(zao M.out).length:=by rw[←List.length_append,←HE.o.1]
      obtain ⟨v9,w9,hj,hG⟩:=bytes_join 31 HT8.o.rb (own_base hv8 (Nat.zero_le _)) (by simp only[List.length_nil] at hle;omega) HT8.o.kx.bel.size
      have HT9:Hid (Tk w w9 P b4 c M (k+1) P' b8 (zaz c m' (Y k) 5) (k+1) (.slice a5 (zao M.out).length c5) (zao M.out).length (zao M.out) v9 (zao M.out).length (zao M.out)):=by
       have:=HT8.o.join hG
       rw[←HE.o.1,show 0+(zao (zaz c m' (Y k) 5).out).length=(zao M.out).length by simp only[List.length_nil] at hle;omega] at this
       exact this
      obtain ⟨a9,c9,e9⟩:=zar HT9.o.rb
      subst e9
      clear hK8 hm8 hv8 hG hle
      go_wp2_with (at_builtin;refine Lib.wpList_append_run _ rfl _ _ _ _ rfl _ _ rfl rfl _ _ hj ?_)
      clear hj
      refine kSame_any a5 a9 _ c5 _ c9 (byteAt (zao M.out)) (byteAt (zao M.out)) w9 _ (by omega) (by omega) (bsAt_own HT9.o.ra) (bsAt_own HT9.o.rb) ?_
      intro w10 hb10
      rw[show decide ((zao M.out).length=(zao M.out).length/\ ∀i,i<(zao M.out).length->byteAt (zao M.out) i=byteAt (zao M.out) i)=true by simp]
      have HT10:=HT9.o.ext hb10
      have HQ:Hid (Km w w10 P b4 c M (k+1)/\Km w w10 P' b8 c (zaz c m' (Y k) 5) (k+1)/\(∀g,Own P b4 g-> ¬Own P' b8 g)/\Alike M (zaz c m' (Y k) 5)):=⟨HT10.kx,HT10.ky,HT10.dj,HE.o.2⟩
      clear hb10 HT10
      go_wp2_with fail
      go_roundw
      case rel=>exact⟨k+1,b4,b8,M,_,by omega,by go_num,HQ.o.1,HQ.o.2.1,HQ.o.2.2.1,HQ.o.2.2.2⟩
      case measure=>simp only[intOf];omega
    .have hN5':(((nk:Nat):Int)==5)=false:=by simp;omega
     have HE:Hid (zao M.out=([]:List Int)++zao (zaz c m' (Y k) nk).out/\Alike M (zaz c m' (Y k) nk)):=by rw[←HAl.o.send c (Y k) nk,←HM.o];exact⟨rfl,rfl⟩
     go_wp2_with (at_builtin;refine Lib.wpList_append_run _ rfl _ _ _ _ rfl _ _ rfl rfl _ _ hj ?_)
     clear hj
     refine kSend_any ak nk ck (Y k) _ HT5.o.ky (by omega) HL.o hlen.1 hlen.2 (HCk.o.2.1.ext HT5.o.ky.bel) HCk.o.2.2.1 (fun h0 g o e=>lll (HCk.o.2.2.2 h0 g o e) HT5.o.ky.bel.size) ?_
     intro b8 v8 w8 hK8 hm8 hv8 _ _
     have HT8:=zl (HT5.o.sent hm8 hK8)
     have hle:(([]:List Int)).length+(zao (zaz c m' (Y k) nk).out).length=(zao M.out).length:=by rw[←List.length_append,←HE.o.1]
     obtain ⟨v9,w9,hj,hG⟩:=bytes_join 31 HT8.o.rb (own_base hv8 (Nat.zero_le _)) (by simp only[List.length_nil] at hle;omega) HT8.o.kx.bel.size
     have HT9:Hid (Tk w w9 P b4 c M (k+1) P' b8 (zaz c m' (Y k) nk) (k+1) (.slice a5 (zao M.out).length c5) (zao M.out).length (zao M.out) v9 (zao M.out).length (zao M.out)):=by
      have:=HT8.o.join hG
      rw[←HE.o.1,show 0+(zao (zaz c m' (Y k) nk).out).length=(zao M.out).length by simp only[List.length_nil] at hle;omega] at this
      exact this
     obtain ⟨a9,c9,e9⟩:=zar HT9.o.rb
     subst e9
     clear hK8 hm8 hv8 hG hle
     go_wp2_with (at_builtin;refine Lib.wpList_append_run _ rfl _ _ _ _ rfl _ _ rfl rfl _ _ hj ?_)
     clear hj
     refine kSame_any a5 a9 _ c5 _ c9 (byteAt (zao M.out)) (byteAt (zao M.out)) w9 _ (by omega) (by omega) (bsAt_own HT9.o.ra) (bsAt_own HT9.o.rb) ?_
     intro w10 hb10
     rw[show decide ((zao M.out).length=(zao M.out).length/\ ∀i,i<(zao M.out).length->byteAt (zao M.out) i=byteAt (zao M.out) i)=true by simp]
     have HT10:=HT9.o.ext hb10
     have HQ:Hid (Km w w10 P b4 c M (k+1)/\Km w w10 P' b8 c (zaz c m' (Y k) nk) (k+1)/\(∀g,Own P b4 g-> ¬Own P' b8 g)/\Alike M (zaz c m' (Y k) nk)):=⟨HT10.kx,HT10.ky,HT10.dj,HE.o.2⟩
     clear hb10 HT10
     go_wp2_with fail
     go_roundw
     case rel=>exact⟨k+1,b4,b8,M,_,by omega,by go_num,HQ.o.1,HQ.o.2.1,HQ.o.2.2.1,HQ.o.2.2.2⟩
     case measure=>simp only[intOf];omega
   .have hkn:k=n:=by omega
    subst hkn
    go_wp2_with fail
    refine pOrders_any P b c m _ wr _ HK.o.ps ?_
    intro v4 w4 hb4 hv4
    obtain ⟨a4,c4,e4⟩:=zar hv4
    subst e4
    have HY4:=zl (HY.o.ext hb4)
    have HO4:Hid (OrdsAt w4 a4 m.phase (zfg m.all)):=ordsAt_own hv4
    clear hb4 hv4
    go_wp2_with fail
    refine pOrders_any P' b' c m' _ w4 _ HY4.o.ps ?_
    intro v5 w5 hb5 hv5
    obtain ⟨a5,c5,e5⟩:=zar hv5
    subst e5
    have HY5:=zl (HY4.o.ext hb5)
    have HO5:Hid (OrdsAt w5 a5 m'.phase (zfg m'.all)):=ordsAt_own hv5
    have HO45:=zl (HO4.o.ext hb5)
    have hn9:(zfg m.all).length<=1048576:=llt (List.length_filter_le _ _) (by have:=HK.o.len;omega)
    have hnL:(zfg m'.all).length<=1048576:=llt (List.length_filter_le _ _) (by have:=HY.o.len;omega)
    clear hb5 hv5
    go_wp2_with fail
    refine kSameOrders_any a4 a5 c4 c5 m.phase m'.phase (zfg m.all) (zfg m'.all) w5 _ hn9 hnL HO45.o HO5.o ?_
    intro bb w6 hb6 hbb
    have hal:({m with out:=[]}:Mk)={m' with out:=[]}:=HD.o.2
    simp only[Mk.mk.injEq] at hal
    obtain rfl:bb=true:=hbb (by rw[hal.2.2.2.2.1]) hal.1
    have hfin:Hid (R (.returned (.bool true)) w6):=HR.o w6 (HY5.o.bel.trans (hb6.mono HY5.o.bel.size))
    clear hb6 hbb hal
    go_wp2_with fail
    exact hfin.o
end
