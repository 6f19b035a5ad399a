import Derived.Test.YtmiiejinahnpkaaGreatDoorNj
import Derived.Test.YtmiiejinahnpkaaGreatDoorXNfNg
import Derived.Test.YtmiiejinahnpkaaGreatDoorDk
namespace Go.Proofs.YtmiiejinahnpkaaGreatDoor
section
open Go.RowKit Go.Shelf
structure CmdsAt (w:World) (sa:Option Addr) (n:Nat) (A:Nat->Option Addr) (N C:Nat->Nat) (Y:Nat->Nat->Nat):Prop where
 cell: ∀i,i<n-> ∃g o,sa=some ⟨g,o,none⟩/\w.cell? ⟨g,o+i,none⟩=some (.slice (A i) (N i) (C i))
 len: ∀i,i<n->N i<=1048576/\N i<=C i
 bs: ∀i,i<n->zgh w (A i) (N i) (Y i)
 byt: ∀i q,Y i q<=255
 low: ∀i,i<n->0<N i-> ∀g o,A i=some ⟨g,o,none⟩->g<w.heap.size
theorem zgh.ext {w w':World}{a:Option Addr}{n:Nat}{Y:Nat->Nat}(h:zgh w a n Y)(hb:Below w.heap.size w w'):zgh w' a n Y:=fun i hi=>by
 obtain ⟨g,o,e,hc⟩:=h i hi
 exact⟨g,o,e,(hb.cell (zab hc)).trans hc⟩
structure Km (w0 w:World) (P:Nat) (b:Bk) (c:Cf) (m:Mk) (k:Nat):Prop where
 ps:PS w P b c m m.seq
 low: ∀g,Own P b g->w0.heap.size<=g
 bel:Below w0.heap.size w0 w
 ct:c.total<=1000000000
 co:c.orders<=24
 lv:zap m.all<=c.orders
 ids: ∀j,(nth m.all j).id<=4294967295
 len:m.all.length<=k
theorem Km.ext {w0 w w':World}{P:Nat}{b:Bk}{c:Cf}{m:Mk}{k:Nat}(h:Km w0 w P b c m k)(hb:Below w.heap.size w w'):Km w0 w' P b c m k:=
 ⟨h.ps.ext hb,h.low,h.bel.trans (hb.mono h.bel.size),h.ct,h.co,h.lv,h.ids,h.len⟩
theorem Km.new {w0 w:World}{P:Nat}{b:Bk}{x:Nat->Int}(hok:cfOk x)(hb:Below w0.heap.size w0 w)(ho: ∀g,Own P b g->w0.heap.size<=g)(hp:PS w P b (cfOf x) (newM (cfOf x)) 0):Km w0 w P b (cfOf x) (newM (cfOf x)) 0:=by
 obtain ⟨q1,q2,q3,q4,q5,q6,q7,q8,q9,q10⟩:=hok
 exact⟨hp,ho,hb,by show (x 5).toNat<=_;omega,by show (x 4).toNat<=_;omega,by simp[newM,zap],fun j=>by simp[newM,nth,od0],by simp[newM]⟩
theorem Km.sent {w0 w w':World}{P:Nat}{b b':Bk}{c:Cf}{m:Mk}{k N:Nat}{Y:Nat->Nat}(h:Km w0 w P b c m k)(hY: ∀i,Y i<=255)(hk:k<=1048575)(hp:PS w' P b' c (zaz c m Y N) (zaz c m Y N).seq)(hm:Mv P w b w' b'):
  Km w0 w' P b' c (zaz c m Y N) (k+1):=by
 have hl:=h.len
 have hf:=Fm.send c m Y N h.ps.pv.gd h.ids hY (by omega) h.ct
 have hs:=(zfm c m Y N h.ps.pv.gd h.ps.ph (by omega) h.ct h.lv).1
 exact⟨hp,hm.low h.low h.bel.size,h.bel.trans (hm.tch.low h.bel.size h.low),h.ct,h.co,hs.live,hf.ids,llt hs.len (by show m.all.length+1<=_;omega)⟩
theorem Km.ok {w0 w:World}{P:Nat}{b:Bk}{c:Cf}{m:Mk}{k N:Nat}{Y:Nat->Nat}(h:Km w0 w P b c m k)(hY: ∀i,Y i<=255)(hk:k<=1048575):(∀e∈(zaz c m Y N).out,okE e)/\(zaz c m Y N).out.length<=36:=by
 have hl:=h.len
 have hco:=h.co
 have:=(zfm c m Y N h.ps.pv.gd h.ps.ph (by omega) h.ct h.lv).2
 exact⟨(Fm.send c m Y N h.ps.pv.gd h.ids hY (by omega) h.ct).out,by omega⟩
end
section
open Go.RowKit Go.Shelf
theorem send_tick (c:Cf)(m:Mk)(Y:Nat->Nat)(h:Y 0=4):zaz c m Y 5=zdu c {m with out:=[]} (num4 Y 1):=by
 unfold zaz
 dsimp only
 rw[show (if 0<5 then Y 0 else 0)=4 from h,if_neg (by omega),if_neg (by omega),if_neg (by omega),if_pos ⟨rfl,rfl⟩]
theorem yOf_tick (s:Int)(h0:0<=s)(h1:s<=4294967295):yOf (4::be s 4) 0=4/\num4 (yOf (4::be s 4)) 1=s.toNat:=by
 refine⟨rfl,?_⟩
 simp[num4,yOf,byteAt,be]
 omega
theorem tick_all (s:Int):((4::be s 4).all fun x=>decide (0<=x/\x<=255))=true:=by
 simp[be]
 omega
theorem cross_lenK (p f v:Nat)(m:Mk):(zbg p f v m).all.length=m.all.length:=by
 induction f generalizing v m with
 |zero=>rfl
 |succ f ih=>
  unfold zbg
  split
  .rfl
  .dsimp only
   rw[ih]
   simp[za3,zax,zaf]
theorem sweep_lenK (n:Nat)(m:Mk):(zai n m).all.length=m.all.length:=by
 induction n with
 |zero=>rfl
 |succ n ih=>
  unfold zai
  dsimp only
  split
  .simp[zav,zaf,ih]
  .exact ih
theorem turn_lenK (m:Mk):(zbj m).all.length=m.all.length:=by
 rw[turn_end]
 dsimp only
 have key: ∀m2:Mk,(endMK m2).all.length=m2.all.length:=by
  intro m2
  unfold endMK
  dsimp only
  have: ∀m4:Mk,(if m4.phase=2 then zah m4 6 else m4).all=m4.all:=fun m4=>by split<;>rfl
  rw[this,sweep_lenK]
  rfl
 rw[key]
 show (if m.phase≠1 then _ else m).all.length=_
 split
 .rw[cross_lenK];rfl
 .rfl
theorem turns_lenK (c:Cf)(t f:Nat)(m:Mk):(za2 c t f m).all.length=m.all.length:=by
 induction f generalizing m with
 |zero=>rfl
 |succ f ih=>
  unfold za2
  split
  .rw[ih,turn_lenK]
  .rfl
theorem tick_lenK (c:Cf)(t:Nat)(m:Mk):(zdu c m t).all.length=m.all.length:=by
 unfold zdu
 split
 .rfl
 .rw[turns_lenK]
section
variable {w wr w':World} {P P' k k' k2 la lb:Nat} {b b' b2:Bk} {c:Cf} {m m' m2:Mk} {va vb:Value} {xa xb:List Int}
end
end
section
open Go.RowKit Go.Shelf
theorem kSend_any {w0 w:World}{P:Nat}{b:Bk}{c:Cf}{m:Mk}{k:Nat}(a:Option Addr)(N cc:Nat)(Y:Nat->Nat)(R:EW)(h:Km w0 w P b c m k)(hk:k<=1048575)(hL:zcq w0)(hN:N<=1048576)(hcap:N<=cc)(hx:zgh w a N Y)(hY: ∀i,Y i<=255)(hal:0<N-> ∀g o,a=some ⟨g,o,none⟩->g<w.heap.size)
  (hR: ∀b' v w',Km w0 w' P b' c (zaz c m Y N) (k+1)->Mv P w b w' b'->w'.ownsRow w.heap.size 5 1 v (zao (zaz c m Y N).out).length ((zao (zaz c m Y N).out).map bv)->(∀g,Own P b' g->v.ownBlock≠some g)->(zaz c m Y N).out.length<=36->R (.returned v) w'):
  Calls Tryz.prog 31 #[.pointer (some ⟨P,0,none⟩),.slice a N cc] w R:=by
 have hl:=h.len
 have hco:=h.co
 exact pSend_any P b c m a N cc Y w0 w R h.ps hL h.bel h.low hN hcap hx hY hal (by omega) h.ct h.lv (by omega) fun b' v w' hp hm hv hs=>hR b' v w' (h.sent hY hk hp hm) hm hv hs (h.ok hY hk).2
end
end Go.Proofs.YtmiiejinahnpkaaGreatDoor
namespace Go.Proofs.YtmiiejinahnpkaaGreatDoor
open Go.RowKit
theorem Tryz.cellsBytess:Tryz.prog.cellsOf 25=1:=by kernel_rfl
section
variable {H:Type} {enc:TypeId×Value->H} {w:World} {spare:Nat->Bool} {held:Bool}
theorem cap_of {fuel:Nat}{t e:TypeId}{a:Option Addr}{m c:Nat}{x:DataW H×List MemPlace}(ht:Tryz.prog.underlying t=some (.slice e))(h:DataW.trod enc Tryz.prog w 0 spare held fuel t [.slice a m c]=some x):m<=c:=by
 rcases Deep.open_slice ht h with ⟨e,_⟩|⟨a',len,cap,m',n,D,Pl,e,_,hl,_⟩
 .simp only[List.cons.injEq,Value.slice.injEq,and_true] at e
  omega
 .simp only[List.cons.injEq,Value.slice.injEq,and_true] at e
  omega
theorem open_cmds {fuel:Nat}{cs:List Value}{x:DataW H×List MemPlace}(h:DataW.trod enc Tryz.prog w 0 spare held fuel 25 cs=some x)(hk:Rows.uptoBulk x.1<=1048576):
  ∃sa n c A N C Y,cs=[.slice sa n c]/\n<=Rows.uptoBulk x.1/\CmdsAt w sa n A N C Y:=by
 rcases Deep.open_slice Tryz.underlying25 h with ⟨rfl,_⟩|⟨a,len,cap,m,n,D,Pl,rfl,_,hl,_,hm,rfl,hx⟩
 .exact⟨none,0,0,fun _=>none,fun _=>0,fun _=>0,fun _ _=>0,rfl,Nat.zero_le _,⟨fun i hi=>absurd hi (by omega),fun i hi=>absurd hi (by omega),fun i hi=>absurd hi (by omega),fun _ _=>by decide,fun i hi=>absurd hi (by omega)⟩⟩
 .have hlen:len<=m:=by rw[hm];split<;>omega
  have hb1:=zgr (H:=H) ((List.range len).map D) ((List.range (m-len)).map fun j=>D (len+j))
  have hb2:=zj1 (H:=H) ((List.range len).map D)
  simp only[List.length_map,List.length_range] at hb2
  simp only at hk
  have key: ∀i,i<len-> ∃(t:Option Addr×Nat×Nat×(Nat->Int)),w.cell? (a.add i)=some (.slice t.1 t.2.1 t.2.2.1)/\t.2.1<=t.2.2.1/\t.2.1<=1048576/\BsAt w t.1 t.2.1 t.2.2.2/\ ∀q,q<t.2.1->0<=t.2.2.2 q/\t.2.2.2 q<=255:=by
   intro i hi
   obtain ⟨cs',h1,h2⟩:=hx i (by omega)
   rw[Tryz.cellsBytes,Nat.mul_one] at h1
   obtain ⟨_,_,h3⟩:=World.cells?_some h1
   have hD:D i∈(List.range len).map D:=List.mem_map_of_mem (List.mem_range.2 hi)
   have hb3:=bulk_mem hD
   obtain ⟨a1,N,c,X,rfl,r1,r2,r3⟩:=open_bytes h2 (by simp only;omega)
   refine⟨(a1,N,c,X),?_,cap_of Tryz.underlying31 h2,r1,r2,r3⟩
   have:=h3 0 (by decide)
   rw[Deep.add_add,Nat.add_zero] at this
   exact this
  classical
  obtain ⟨T,hT⟩:=Deep.choose_lt (α:=Option Addr×Nat×Nat×(Nat->Int)) key
  refine⟨some a,len,cap,fun i=>(T i).1,fun i=>(T i).2.1,fun i=>(T i).2.2.1,fun i q=>if i<len/\q<(T i).2.1 then ((T i).2.2.2 q).toNat else 0,rfl,by simp only;omega,⟨?_,fun i hi=>⟨(hT i hi).2.2.1,(hT i hi).2.1⟩,?_,?_,?_⟩⟩
  .intro i hi
   have h0:=(hT 0 (by omega)).1
   have hp:=zgl (show w.cell? a=some _ by simpa [Addr.add] using h0)
   obtain ⟨q0,_⟩:=hT i hi
   rw[hp,zhz] at q0
   exact⟨a.block,a.off,by rw[←hp],q0⟩
  .intro i hi q hq
   obtain ⟨_,_,_,r2,r3⟩:=hT i hi
   obtain ⟨b,o,e,hc⟩:=r2 q hq
   refine⟨b,o,e,?_⟩
   rw[hc]
   show _=some (Value.int .u8 ((if i<len/\q<(T i).2.1 then ((T i).2.2.2 q).toNat else 0:Nat):Int))
   rw[if_pos ⟨hi,hq⟩,Int.toNat_of_nonneg (r3 q hq).1]
  .intro i q
   show (if i<len/\q<(T i).2.1 then ((T i).2.2.2 q).toNat else 0)<=255
   split
   .rename_i h
    have:=((hT i h.1).2.2.2.2 q h.2).2
    omega
   .omega
  .intro i hi h0 g o e
   obtain ⟨b,o',e',hc⟩:=(hT i hi).2.2.2.1 0 h0
   have:=zab hc
   rw[e] at e'
   injection e' with e'
   injection e' with e' _
   rw[e']
   exact this
end
end Go.Proofs.YtmiiejinahnpkaaGreatDoor
namespace Go.Proofs.YtmiiejinahnpkaaGreatDoor.refused
open Go.ChangeShapes Go.WideShapes Go.ChangeAt Go.RowKit
end Go.Proofs.YtmiiejinahnpkaaGreatDoor.refused
