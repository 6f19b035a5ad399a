import Derived.RangeFuncNested
import Derived.RangeFuncBound
import Derived.RangeFuncCalls
import Derived.RangeFuncLeaves
import Derived.OwnWalkIn
import Derived.Test.YtmiiejinahnpkaaGreatDoorXAgGa
import Derived.Shelf.AbstractIn
import Derived.TacticsInMore
import Derived.LoopNIn
import Derived.LoopIn
import Derived.Maps.OwnSet
set_option maxRecDepth 100000
set_option maxHeartbeats 2000000
namespace Go.Proofs.YtmiiejinahnpkaaGreatDoor
section
open Go.RowKit
def zli (F:Fence) (n:Nat) (P:Program) (gf:Nat) (lb:Array Value) (N:Nat) (enc:Nat->Value) (G:World->Prop) (Φ In:Nat->World->Prop):Prop:=
 ∀(l:Nat) (J:Nat->World->Prop) (Jx:World->Prop) (W:World),G W->(∀W',W.grownBy W' none->J 0 W')->(∀k W1,J k W1->Φ k W1)->
  (∀k W1,k<N->J k W1-> ¬In k W1->J (k+1) W1)->
  (∀k W1,k<N->J k W1->In k W1->YieldAt F (n-1) P l #[enc k] W1 fun e W'=>(e= .returned (.bool true)/\J (k+1) W')\/(e= .returned (.bool false)/\Jx W'))->
  CallsIn F n P gf (#[.func (.yield l) #[] #[]]++lb) W fun e W'=>(∃v,e= .returned v)/\(J N W'\/Jx W')
def posPost (B:Nat) (J:World->Prop) (Jx:Code->World->Prop) (W:World):Exit->Act->World->Prop
 | .normal,_,W'=>KeepsFrom B W W'/\J W'
 | .ret,_,W'=>KeepsFrom B W W'/\Jx .ret W'
 | .exit id,_,W'=>KeepsFrom B W W'/\Jx (.exit id) W'
 | .goto t,_,W'=>KeepsFrom B W W'/\Jx (.goto t) W'
 | .panic _,_,_=>False
 | .outgrown,_,_=>False
variable {F:Fence} {n:Nat} {P:Program}
def lrec (fn:FuncId) (tmps:Array Value) (ps:Array Tmp) (assign body:Code) (df:Nat) (st:LoopState) (pe:Option Code):Loop:=
 {state:=st,pending:=pe,fn:=fn,tmps:=tmps,params:=ps,assign:=assign,body:=body,defers:=df}
theorem range_core {fn:FuncId}(hfn:F.fn fn){tmps:Array Value}{ps:Array Tmp}{assign body:Code}{df l B N:Nat}(hBl:B<=l){gf:Nat}{lb:Array Value}{enc:Nat->Value}{G:World->Prop}{Φ In:Nat->World->Prop}
  (hseq:zli F n P gf lb N enc G Φ In)(hps:ps.size=1)(J:Nat->World->Prop)(Jx:Code->World->Prop)(hJ:OwnFrom B J)(hJx: ∀c,OwnFrom B (fun (_:Unit) W=>Jx c W))
  (hΦ: ∀k W,J k W->Φ k W)(hskip: ∀k W,k<N->J k W-> ¬In k W->J (k+1) W)
  (Y:World->Prop)(hY1: ∀W W',KeepsFrom B W W'->Y W->Y W')(hY2: ∀W o',Y W->Y (W.putObj l o'))(hY3: ∀W W',W.grownBy W' none->Y W->Y W')
  (Ax:Nat->Act->World->Prop)(hAx: ∀k a',OwnFrom B (fun (_:Unit) W=>Ax k a' W))
  (hassign: ∀(k:Nat) (W:World) (K:Act->World->Prop),k<N->J k W->In k W->(∀a' W',KeepsFrom B W W'->J k W'->Ax k a' W'->K a' W')->
   assign.wpIn (F.inRound l) (n-1) P (Exit.then K (fun _ _ _=>False)) {tmps:=(ps.zip #[enc k]).foldl (fun t (p,v)=>t.setIfInBounds p v) tmps,defers:=[]} W)
  (hbody: ∀(k:Nat) (a':Act) (W:World),k<N->(∃r,W.heap[l]?=some (.loop r))->J k W->Ax k a' W->body.wpIn (F.inRound l) (n-1) P (posPost B (J (k+1)) Jx W) a' W)
  (W1:World)(hG:G W1)(hl1:W1.heap[l]?=some (.loop (lrec fn tmps ps assign body df .ready none)))(hJ0:J 0 W1)(hy1:Y W1):
  CallsIn F n P gf (#[.func (.yield l) #[] #[]]++lb) W1 fun e W'=>(∃v,e= .returned v)/\
   ((J N W'/\W'.heap[l]?=some (.loop (lrec fn tmps ps assign body df .ready none))/\Y W')\/(∃c,Jx c W'/\W'.heap[l]?=some (.loop (lrec fn tmps ps assign body df .done (some c)))/\Y W')):=by
 have put: ∀{W:World} {o:Obj} (o':Obj),W.heap[l]?=some o->(W.putObj l o').heap[l]?=some o':=fun o' h=>World.putObj_heap_same (gsi.1 h).1
 refine(hseq l (fun k W=>J k W/\W.heap[l]?=some (.loop (lrec fn tmps ps assign body df .ready none))/\Y W)
  (fun W=> ∃c,Jx c W/\W.heap[l]?=some (.loop (lrec fn tmps ps assign body df .done (some c)))/\Y W) W1 hG ?_ (fun k W h=>hΦ k W h.1) (fun k W hk h hi=>⟨hskip k W hk h.1 hi,h.2⟩) ?_)
 .intro W' hg
  exact⟨hJ 0 W1 W' none hJ0 hg (fun r e=>by cases e),(hg.block l (gsi.1 hl1).1 (fun e=>by cases e)).trans hl1,hY3 _ _ hg hy1⟩
 .rintro k W hk ⟨hj,hl,hy⟩ hin
  have hyd:=run_yield (P:=P) (args:= #[enc k]) hl (by simp[lrec,hps])
  refine⟨fn,_,assign,body,hyd,roundIn_of_wpIn hfn (hassign k W _ hk hj hin ?_)⟩
  intro a' Wa hka hja hax
  have hla:=hka.same _ _ hBl hl rfl
  refine⟨_,run_beginRound hla rfl,?_⟩
  have hlb:=put (.loop {lrec fn tmps ps assign body df .ready none with state:= .busy}) hla
  refine wpIn_mono (hbody k a' _ hk ⟨_,hlb⟩ (hJ.putObj _ hja hBl hla rfl) ((hAx k a').putObj (s:=()) _ hax hBl hla rfl)) ?_
  have hyb:=hY2 _ (.loop {lrec fn tmps ps assign body df .ready none with state:= .busy}) (hY1 _ _ hka hy)
  have stop: ∀(c:Code) (W3:World),KeepsFrom B (Wa.putObj l (.loop {lrec fn tmps ps assign body df .ready none with state:= .busy})) W3->Jx c W3->
    ∃v w',(Instr.endRound l (some c)).run P W3= .ok v w'/\((Ending.returned v= .returned (.bool true)/\J (k+1) w'/\w'.heap[l]?=some (.loop (lrec fn tmps ps assign body df .ready none))/\Y w')\/
     (Ending.returned v= .returned (.bool false)/\ ∃c,Jx c w'/\w'.heap[l]?=some (.loop (lrec fn tmps ps assign body df .done (some c)))/\Y w')):=by
   intro c W3 hk3 hx
   have hl3:=hk3.same _ _ hBl hlb rfl
   exact⟨_,_,run_endRound (some c) hl3,.inr ⟨rfl,c,(hJx c).putObj (s:=()) _ hx hBl hl3 rfl,put _ hl3,hY2 _ _ (hY1 _ _ hk3 hyb)⟩⟩
  rintro e a3 W3 hp
  cases e with
  |normal=>
   obtain ⟨hk3,hj3⟩:=hp
   have hl3:=hk3.same _ _ hBl hlb rfl
   exact⟨_,_,run_endRound none hl3,.inl ⟨rfl,hJ.putObj _ hj3 hBl hl3 rfl,put _ hl3,hY2 _ _ (hY1 _ _ hk3 hyb)⟩⟩
  |ret=>exact stop _ _ hp.1 hp.2
  |exit id=>exact stop _ _ hp.1 hp.2
  |goto t=>exact stop _ _ hp.1 hp.2
  |panic ch=>exact hp.elim
  |outgrown=>exact hp.elim
variable {a:Act} {Q:Exit->Act->World->Prop} {w:World}
theorem zc7 {g:Operand}{ps:Array Tmp}{assign body:Code}(hro:F.round=none)(h1:1<=n){gf:Nat}{lb:Array Value}(hg:a.eval g= .func (.func gf) #[] lb)(hFg:F.fn gf)
  (eg: ∀args w,(callFunc gf args).run P w= .ok (.enter gf args) w){N:Nat}{enc:Nat->Value}{G:World->Prop}{Φ In:Nat->World->Prop}(hseq:zli F (n-1) P gf lb N enc G Φ In)(hps:ps.size=1)
  (hG: ∀W,w.grownBy W none->G W)(J:Nat->World->Prop)(Jx:Code->World->Prop)(hJ:OwnFrom w.heap.size J)(hJx: ∀c,OwnFrom w.heap.size (fun (_:Unit) W=>Jx c W))(h0:J 0 w)
  (hΦ: ∀k W,J k W->Φ k W)(hskip: ∀k W,k<N->J k W-> ¬In k W->J (k+1) W)(Ax:Nat->Act->World->Prop)(hAx: ∀k a',OwnFrom w.heap.size (fun (_:Unit) W=>Ax k a' W))
  (hassign: ∀(l:Nat) (k:Nat) (W:World) (K:Act->World->Prop),k<N->J k W->In k W->(∀a' W',KeepsFrom w.heap.size W W'->J k W'->Ax k a' W'->K a' W')->
   assign.wpIn (F.inRound l) (n-1-1) P (Exit.then K (fun _ _ _=>False)) {tmps:=(ps.zip #[enc k]).foldl (fun t (p,v)=>t.setIfInBounds p v) a.tmps,defers:=[]} W)
  (hbody: ∀(l:Nat) (k:Nat) (a':Act) (W:World),k<N->w.heap.size<=l->(∃r,W.heap[l]?=some (.loop r))->J k W->Ax k a' W->body.wpIn (F.inRound l) (n-1-1) P (posPost w.heap.size (J (k+1)) Jx W) a' W)
  (hdone: ∀(D:Nat) (W:World),w.heap.size<=D->J N W->W.heap[D]?=some (.deferred (some []))->Q .normal {a with defers:={target:= .collected D,args:= #[]}::a.defers} W)
  (hstop: ∀(D:Nat) (c:Code) (W:World),w.heap.size<=D->Jx c W->W.heap[D]?=some (.deferred (some []))->c.wpIn F n P Q {a with defers:={target:= .collected D,args:= #[]}::a.defers} W):
  (Code.rangeFunc g ps assign body).wpIn F n P Q a w:=by
 refine wpIn_rangeFunc ?_
 intro fn hfn
 rw[hro]
 obtain ⟨W1,hW1⟩: ∃W1,(w.alloc (.deferred (some []))).alloc (.loop (lrec fn a.tmps ps assign body w.heap.size .ready none))=W1:=⟨_,rfl⟩
 have hgr:w.grownBy W1 none:=by
  rw[←hW1]
  have h:=((Below.refl w.heap.size w).alloc nr (.deferred (some []))).alloc (by simp) (.loop (lrec fn a.tmps ps assign body w.heap.size .ready none))
  exact⟨h.os,h.tape,h.output,h.size,fun k hk _=>h.block k hk⟩
 have hL1:W1.heap[w.heap.size+1]?=some (.loop (lrec fn a.tmps ps assign body w.heap.size .ready none)):=by
  rw[←hW1];have:=World.alloc_heap_new (w.alloc (.deferred (some []))) (.loop (lrec fn a.tmps ps assign body w.heap.size .ready none));rwa[World.size_alloc] at this
 have hK1:W1.heap[w.heap.size]?=some (.deferred (some [])):=by
  rw[←hW1];exact(Below.heap_alloc _ _ _ (by simp)).trans (World.alloc_heap_new w _)
 refine⟨w.heap.size+1,[{target:= .collected w.heap.size,args:= #[]}],W1,{target:= .fn (.func gf) lb,args:= #[.func (.yield (w.heap.size+1)) #[] #[]]},W1,gf,
  #[.func (.yield (w.heap.size + 1)) #[] #[]] ++ lb, W1, ?_, ?_, ?_, ?_, fun _ => h1, ?_⟩
 .rw[←hW1];exact run_enterLoop_outer _ _ _ _ _
 .simp only[resolve,hg]
  simp[go_sem]
 .intro f' hf';simp[Target.leads] at hf';subst hf';exact hFg
 .simp[invoke,go_sem,eg]
 .refine(range_core (F:=F) (n:=n-1) (P:=P) hfn (B:=w.heap.size) (by omega) hseq hps J Jx hJ hJx hΦ hskip (fun W=>W.heap[w.heap.size]?=some (.deferred (some []))) (fun W W' hk hy=>hk.same _ _ nr hy rfl)
   (fun W o' hy=>(World.putObj_heap_other (by omega)).trans hy) (fun W W' hg' hy=>(hg'.block _ (gsi.1 hy).1 (fun e=>by cases e)).trans hy) Ax hAx (fun k W K=>hassign _ k W K) (fun k a' W hk hr=>hbody _ k a' W hk (by omega) hr)
   W1 (hG _ hgr) hL1 (hJ 0 w W1 none h0 hgr (fun r e=>by cases e)) hK1).mono ?_
  rintro e W2 ⟨⟨v,rfl⟩,(⟨hj,hl,hk⟩|⟨c,hx,hl,hk⟩)⟩
  .exact⟨none,_,run_endLoop (P:=P) hl (by simp[lrec]),hdone _ _ nr (hJ.putObj _ hj (by omega) hl rfl) ((World.putObj_heap_other (by omega)).trans hk)⟩
  .exact⟨some c,_,run_endLoop (P:=P) hl (by simp[lrec]),hstop _ c _ nr ((hJx c).putObj (s:=()) _ hx (by omega) hl rfl) ((World.putObj_heap_other (by omega)).trans hk)⟩
theorem zgu {g:Operand}{ps:Array Tmp}{assign body:Code}{l₀:Nat}{r₀:Loop}(hro:F.round=some l₀)(hl₀:w.heap[l₀]?=some (.loop r₀))(h1:1<=n){gf:Nat}{lb:Array Value}
  (hg:a.eval g= .func (.func gf) #[] lb)(hFg:F.fn gf)
  (eg: ∀args w,(callFunc gf args).run P w= .ok (.enter gf args) w){N:Nat}{enc:Nat->Value}{G:World->Prop}{Φ In:Nat->World->Prop}(hseq:zli F (n-1) P gf lb N enc G Φ In)(hps:ps.size=1)
  (hG: ∀W,w.grownBy W none->G W)(J:Nat->World->Prop)(Jx:Code->World->Prop)(hJ:OwnFrom w.heap.size J)(hJx: ∀c,OwnFrom w.heap.size (fun (_:Unit) W=>Jx c W))(h0:J 0 w)
  (hΦ: ∀k W,J k W->Φ k W)(hskip: ∀k W,k<N->J k W-> ¬In k W->J (k+1) W)(Ax:Nat->Act->World->Prop)(hAx: ∀k a',OwnFrom w.heap.size (fun (_:Unit) W=>Ax k a' W))
  (hassign: ∀(l:Nat) (k:Nat) (W:World) (K:Act->World->Prop),k<N->J k W->In k W->(∀a' W',KeepsFrom w.heap.size W W'->J k W'->Ax k a' W'->K a' W')->
   assign.wpIn (F.inRound l) (n-1-1) P (Exit.then K (fun _ _ _=>False)) {tmps:=(ps.zip #[enc k]).foldl (fun t (p,v)=>t.setIfInBounds p v) a.tmps,defers:=[]} W)
  (hbody: ∀(l:Nat) (k:Nat) (a':Act) (W:World),k<N->w.heap.size<=l->(∃r,W.heap[l]?=some (.loop r))->J k W->Ax k a' W->body.wpIn (F.inRound l) (n-1-1) P (posPost w.heap.size (J (k+1)) Jx W) a' W)
  (hdone: ∀(W:World),J N W->Q .normal a W)(hstop: ∀(c:Code) (W:World),Jx c W->c.wpIn F n P Q a W):
  (Code.rangeFunc g ps assign body).wpIn F n P Q a w:=by
 refine wpIn_rangeFunc ?_
 intro fn hfn
 rw[hro]
 obtain ⟨W1,hW1⟩: ∃W1,w.alloc (.loop (lrec fn a.tmps ps assign body r₀.defers .ready none))=W1:=⟨_,rfl⟩
 have hgr:w.grownBy W1 none:=by
  rw[←hW1]
  exact World.grownBy_alloc w _ none
 have hL1:W1.heap[w.heap.size]?=some (.loop (lrec fn a.tmps ps assign body r₀.defers .ready none)):=by rw[←hW1];exact World.alloc_heap_new w _
 refine⟨w.heap.size,[],W1,{target:= .fn (.func gf) lb,args:= #[.func (.yield w.heap.size) #[] #[]]},W1,gf,#[.func (.yield w.heap.size) #[] #[]]++lb,W1,?_,?_,?_,?_,fun _=>h1,?_⟩
 .rw[←hW1];exact run_enterLoop_inner hl₀ _ _ _ _ _
 .simp only[resolve,hg]
  simp[go_sem]
 .intro f' hf';simp[Target.leads] at hf';subst hf';exact hFg
 .simp[invoke,go_sem,eg]
 .refine(range_core (F:=F) (n:=n-1) (P:=P) hfn (B:=w.heap.size) nr hseq hps J Jx hJ hJx hΦ hskip (fun _=>True) (fun _ _ _ _=>trivial)
   (fun _ _ _=>trivial) (fun _ _ _ _=>trivial) Ax hAx (fun k W K=>hassign _ k W K) (fun k a' W hk hr=>hbody _ k a' W hk nr hr)
   W1 (hG _ hgr) hL1 (hJ 0 w W1 none h0 hgr (fun r e=>by cases e)) trivial).mono ?_
  rintro e W2 ⟨⟨v,rfl⟩,(⟨hj,hl,_⟩|⟨c,hx,hl,_⟩)⟩
  .exact⟨none,_,run_endLoop (P:=P) hl (by simp[lrec]),hdone _ (hJ.putObj _ hj nr hl rfl)⟩
  .exact⟨some c,_,run_endLoop (P:=P) hl (by simp[lrec]),hstop c _ ((hJx c).putObj (s:=()) _ hx nr hl rfl)⟩
end
section
open Go.RowKit Go.Shelf
attribute [local go_sem] Oper.semAt_some
structure PrG (Bb Bs Bk s:Nat) (v:Value) (W:World):Prop where
 fb:W.cell? ⟨Bb,0,none⟩=some (.pointer (some ⟨Bk,0,none⟩))
 fs:W.cell? ⟨Bs,0,none⟩=some (.int .i64 s)
 fq:W.cell? ⟨Bk,s,none⟩=some v
def PrF (g N:Nat) (adr:Nat->Nat) (k:Nat) (W:World):Prop:=
 k<N->W.cell? ⟨g,k,none⟩=some (.pointer (some ⟨adr k,0,none⟩))/\ ∃(wt:Bool) (r:Nat),W.cell? ⟨adr k,5,none⟩=some (.bool wt)/\W.cell? ⟨adr k,4,none⟩=some (.int .i64 r)
def PrI (adr:Nat->Nat) (k:Nat) (W:World):Prop:=W.cell? ⟨adr k,5,none⟩=some (.bool false)/\ ∃r:Nat,0<r/\W.cell? ⟨adr k,4,none⟩=some (.int .i64 r)
theorem zdc {a b:World}(h:Below a.heap.size a b):a.grownBy b none:=⟨h.os,h.tape,h.output,h.size,fun k hk _=>h.block k hk⟩
theorem zgk (n Bb Bs Bk s g N cap:Nat)(a:Option Addr)(adr:Nat->Nat)(ha:0<N->a=some ⟨g,0,none⟩)(hs:s=1\/s=2)(hN:N<=1073741824):
  zli Fence.wide n Tryz.prog 218 #[.pointer (some ⟨Bb,0,none⟩),.pointer (some ⟨Bs,0,none⟩)] N (fun k=> .pointer (some ⟨adr k,0,none⟩)) (PrG Bb Bs Bk s (.slice a N cap)) (PrF g N adr) (PrI adr):=by
 intro l J Jx W hG hJ0 hΦ hsk hY
 obtain ⟨gb,gs,gq⟩:=hG
 refine callsIn_of_wp Tryz.func218 rfl trivial ?_ rfl
 simp only[Tryz.ntmps218,List.size_toArray,List.length_cons,List.length_nil,Nat.reduceAdd,Nat.reduceSub,Array.replicate_succ,Array.replicate_zero,List.push_toArray,List.append_toArray,List.nil_append,List.cons_append]
 have hJ1:J 0 W.drew:=hJ0 _ (zdc br.drew)
 have hf:Fence.wide.fn 219:=trivial
 have HD:Hid (Fence.wide.depth.isSome=true->False):=fun h=>by cases h
 have HA:=zl ha
 have HP:=zl hΦ
 have HS:=zl hsk
 clear ha hΦ hsk hJ0
 rcases hs with rfl|rfl
 all_goals
  gi_wp2
  gi_region
  gi_wp2
  gi_loopw [13] (fun i wr=> ∃k:Nat,k<=N/\i= .int .i64 k/\J k wr) (fun i _=>N-(intOf i).toNat)
  case atStart=>exact⟨0,Nat.zero_le _,rfl,hJ1⟩
  case round=>
   obtain ⟨k,hk,rfl,hJk⟩:=hrel
   by_cases hlt:k<N
   .obtain ⟨c1,wt,r,c5,c4⟩:=HP.o k wr hJk hlt
    obtain rfl:=HA.o (by omega)
    by_cases hin:PrI adr k wr
    .have hin':=hin
     obtain ⟨c5',r',hr',c4'⟩:=hin'
     rw[c5] at c5'
     rw[c4] at c4'
     obtain rfl:wt=false:=by cases c5';rfl
     obtain rfl:r=r':=by simp at c4';omega
     clear c5' c4'
     obtain ⟨fn,tmps,assign,body,hy,hR⟩:=hY k wr hlt hJk hin
     clear hin hY
     gi_wp2
     refine⟨fun h=>(HD.o h).elim,callsIn_wide.2 (zhy (adr k) false r _ _ c4 c5 ?_)⟩
     have hr1:decide (0<r)=true:=by simpa using hr'
     rw[hr1]
     simp only[Bool.not_false,Bool.and_self]
     gi_wp2
     refine⟨fun h=>(HD.o h).elim,hR.mono ?_⟩
     rintro e W3 (⟨rfl,hJ3⟩|⟨rfl,hJx3⟩)
     .clear c1 c5 c4 gb gs gq hy
      gi_wp2
      go_roundw
      case rel=>exact⟨k+1,by omega,by simp,hJ3⟩
      case measure=>simp[intOf];omega
     .clear c1 c5 c4 gb gs gq hy
      gi_wp2
      refine bodyPost_ret (results_none rfl _ _ _) rfl ?_
      exact⟨⟨_,rfl⟩,.inr hJx3⟩
    .have hJ3:=HS.o k wr hlt hJk hin
     have hno:(!wt&&decide (0<r))=false:=by
      cases wt with
      |true=>rfl
      |false=>
       by_cases h0:0<r
       .exact absurd ⟨c5,r,h0,c4⟩ hin
       .simp[h0]
     clear hin hY
     gi_wp2
     refine⟨fun h=>(HD.o h).elim,callsIn_wide.2 (zhy (adr k) wt r _ _ c4 c5 ?_)⟩
     rw[hno]
     clear c1 c5 c4 gb gs gq
     gi_wp2
     refine⟨fun f e=>(by cases e),?_⟩
     gi_wp2
     go_roundw
     case rel=>exact⟨k+1,by omega,by simp,hJ3⟩
     case measure=>simp[intOf];omega
   .obtain rfl:k=N:=by omega
    clear hY gb gs gq
    gi_wp2
    go_end0
    exact⟨⟨_,rfl⟩,.inl hJk⟩
end
section
def bare (e:Nat->Int):Nat->Int:=fun j=>if j=1 then 0 else e j
def outs (m:Mk):List (Nat->Int):=m.out.map bare
def numb (s:Nat):List (Nat->Int)->List (Nat->Int)
 |[]=>[]
 |e::l=>(fun j=>if j=1 then (((s+1)%4294967296:Nat):Int) else e j)::numb ((s+1)%4294967296) l
theorem bare_mkev (k i r b e q p u h:Int):bare (mkev k 0 i r b e q p u h)=mkev k 0 i r b e q p u h:=by
 funext j
 unfold bare
 split
 .rename_i hj
  subst hj
  rfl
 .rfl
theorem bare_seq (e:Nat->Int)(x:Int):bare (fun j=>if j=1 then x else e j)=bare e:=by
 funext j
 unfold bare
 by_cases h:j=1<;>simp[h]
theorem zkk (m:Mk)(e:Nat->Int):outs (zax m e)=outs m++[bare e]:=by
 unfold outs zax
 simp[bare_seq]
theorem numb_length (s:Nat)(l:List (Nat->Int)):(numb s l).length=l.length:=by
 induction l generalizing s with
 |nil=>rfl
 |cons a l ih=>simp[numb,ih]
theorem numb_snoc (s:Nat)(hs:s<=4294967295)(l:List (Nat->Int))(e:Nat->Int):numb s (l++[e])=numb s l++[fun j=>if j=1 then ((((s+l.length)%4294967296+1)%4294967296:Nat):Int) else e j]:=by
 induction l generalizing s with
 |nil=>
  simp[numb]
 |cons a l ih=>
  have:=ih ((s+1)%4294967296) (by omega)
  simp only[List.cons_append,numb,this,List.length_cons]
  have e1:((s+1)%4294967296+l.length)%4294967296=(s+(l.length+1))%4294967296:=by omega
  rw[e1]
structure Nm (s:Nat) (m:Mk):Prop where
 seq:m.seq=(s+m.out.length)%4294967296
 out:m.out=numb s (outs m)
theorem Nm.start (m:Mk)(h:m.seq<=4294967295):Nm m.seq {m with out:=[]}:=⟨by simp;omega,rfl⟩
variable {m:Mk} {s:Nat}
theorem Nm.tell (h:Nm s m)(hs:s<=4294967295)(e:Nat->Int):Nm s (zax m e):=by
 refine⟨?_,?_⟩
 .unfold zax
  simp only[List.length_append,List.length_cons,List.length_nil]
  rw[h.seq]
  omega
 .rw[zkk,numb_snoc s hs]
  unfold zax
  simp only
  rw[←h.out,h.seq]
  congr 1
  have:(outs m).length=m.out.length:=by simp[outs]
  rw[this]
  congr 1
  funext j
  unfold bare
  split<;>rfl
theorem Nm.same {m':Mk}(h:Nm s m)(h1:m'.seq=m.seq)(h2:m'.out=m.out):Nm s m':=by
 refine⟨by rw[h1,h2];exact h.seq,?_⟩
 have:outs m'=outs m:=by unfold outs;rw[h2]
 rw[this,h2]
 exact h.out
theorem Nm.cancel (h:Nm s m)(hs:s<=4294967295)(i:Nat):Nm s (zav m i):=(h.tell hs _).same rfl rfl
theorem Nm.indicate (h:Nm s m)(hs:s<=4294967295)(k:Nat):Nm s (zah m k):=h.tell hs _
theorem Nm.reject (h:Nm s m)(hs:s<=4294967295)(i k:Nat):Nm s (zbh m i k):=h.tell hs _
theorem Nm.trade (h:Nm s m)(hs:s<=4294967295)(i k n p:Nat):Nm s (za3 m i k n p):=by
 unfold za3
 refine Nm.tell ?_ hs _
 exact h.same rfl rfl
theorem Nm.meet (hs:s<=4294967295)(o:Od)(k f:Nat){m:Mk}(h:Nm s m):Nm s (zbd o k f m):=by
 induction f generalizing m with
 |zero=>exact h
 |succ f ih=>
  unfold zbd
  split
  .exact h
  .dsimp only
   split
   .exact h
   .split
    .exact h
    .split
     .exact ih (h.trade hs _ _ _ _)
     .exact ih (h.trade hs _ _ _ _)
theorem Nm.cross (hs:s<=4294967295)(p f v:Nat){m:Mk}(h:Nm s m):Nm s (zbg p f v m):=by
 induction f generalizing v m with
 |zero=>exact h
 |succ f ih=>
  unfold zbg
  split
  .exact h
  .exact ih _ (h.trade hs _ _ _ _)
theorem Nm.sweep (hs:s<=4294967295)(n:Nat){m:Mk}(h:Nm s m):Nm s (zai n m):=by
 induction n with
 |zero=>exact h
 |succ n ih=>
  unfold zai
  dsimp only
  split
  .exact ih.cancel hs _
  .exact ih
theorem Nm.enter (hs:s<=4294967295)(c:Cf)(o:Od){m:Mk}(h:Nm s m):Nm s (zce c m o):=by
 unfold zce
 split
 .exact h.reject hs _ _
 .have h2:Nm s {zax m (mkev 1 0 o.id 0 0 0 o.rest 0 0 0) with all:=(zax m (mkev 1 0 o.id 0 0 0 o.rest 0 0 0)).all++[o]}:=(h.tell hs _).same rfl rfl
  dsimp only
  split
  .exact h2.indicate hs _
  .split
   .exact h2
   .split
    .exact(Nm.meet hs _ _ _ h2).cancel hs _
    .exact Nm.meet hs _ _ _ h2
theorem Nm.change (hs:s<=4294967295)(id:Nat)(by_:Int){m:Mk}(h:Nm s m):Nm s (zbv m id by_):=by
 unfold zbv
 dsimp only
 split
 .exact h.reject hs _ _
 .split
  .exact h.reject hs _ _
  .have key:Nm s (if by_<0\/((nth m.all (zas m.all id m.all.length).toNat).rest:Int)<=by_ then zav m (zas m.all id m.all.length).toNat
     else zax {m with all:=zaf m.all (zas m.all id m.all.length).toNat ((nth m.all (zas m.all id m.all.length).toNat).rest-by_.toNat)} (mkev 5 0 id 0 0 0 by_ 0 0 0)):=by
    split
    .exact h.cancel hs _
    .exact Nm.tell (h.same (m':={m with all:=zaf m.all (zas m.all id m.all.length).toNat ((nth m.all (zas m.all id m.all.length).toNat).rest-by_.toNat)}) rfl rfl) hs _
   generalize (if by_<0\/((nth m.all (zas m.all id m.all.length).toNat).rest:Int)<=by_ then zav m (zas m.all id m.all.length).toNat else zax {m with all:=zaf m.all (zas m.all id m.all.length).toNat ((nth m.all (zas m.all id m.all.length).toNat).rest-by_.toNat)} (mkev 5 0 id 0 0 0 by_ 0 0 0))=m1 at *
   split
   .exact key.indicate hs _
   .exact key
theorem Nm.turn (hs:s<=4294967295){m:Mk}(h:Nm s m):Nm s (zbj m):=by
 unfold zbj
 dsimp only
 have h1:Nm s (if m.phase≠1 then zbg (zal m.phase m.ref m.all).1 (zal m.phase m.ref m.all).2.1 (zal m.phase m.ref m.all).2.1 (zah m 7) else m):=by
  split
  .exact Nm.cross hs _ _ _ (h.indicate hs _)
  .exact h
 generalize (if m.phase≠1 then zbg (zal m.phase m.ref m.all).1 (zal m.phase m.ref m.all).2.1 (zal m.phase m.ref m.all).2.1 (zah m 7) else m)=m1 at *
 have h2:=Nm.sweep hs (zax {m1 with phase:=m1.phase+1} (mkev 8 0 0 0 0 0 0 0 0 ((m1.phase+1:Nat):Int))).all.length (Nm.tell (h1.same (m':={m1 with phase:=m1.phase+1}) rfl rfl) hs (mkev 8 0 0 0 0 0 0 0 0 ((m1.phase+1:Nat):Int)))
 split
 .exact h2.indicate hs _
 .exact h2
theorem Nm.turns (hs:s<=4294967295)(c:Cf)(t f:Nat){m:Mk}(h:Nm s m):Nm s (za2 c t f m):=by
 induction f generalizing m with
 |zero=>exact h
 |succ f ih=>
  unfold za2
  split
  .exact ih (h.turn hs)
  .exact h
theorem Nm.tick (hs:s<=4294967295)(c:Cf)(t:Nat){m:Mk}(h:Nm s m):Nm s (zdu c m t):=by
 unfold zdu
 split
 .exact h
 .exact Nm.turns hs c t 3 (h.same rfl rfl)
theorem Nm.send (c:Cf)(m:Mk)(X:Nat->Nat)(n:Nat)(h:m.seq<=4294967295):Nm m.seq (zaz c m X n):=by
 have h0:=Nm.start m h
 unfold zaz
 dsimp only
 generalize (if 0<n then X 0 else 0)=k
 split
 .exact h0.enter h c _
 .split
  .exact h0.change h _ _
  .split
   .exact h0.change h _ _
   .split
    .exact h0.tick h c _
    .exact h0.reject h _ _
end
section
def zbi (l:List Od):List Nat:=(List.range l.length).filter fun i=>decide (0<(nth l i).rest)
theorem zel (l:List Od)(i:Nat):i∈zbi l↔i<l.length/\0<(nth l i).rest:=by
 unfold zbi
 simp[List.mem_filter]
theorem range_sorted (n:Nat):(List.range n).Pairwise (· < ·):=List.pairwise_lt_range
theorem zeh (l:List Od):(zbi l).Pairwise (· < ·):=List.Pairwise.sublist List.filter_sublist (range_sorted _)
theorem liveIx_nodup (l:List Od):(zbi l).Nodup:=(zeh l).imp (fun h e=>by omega)
variable {q1 q2:List Nat} {l:List Od}
theorem both_nodup (h1:Qd l 1 q1)(h2:Qd l 2 q2):(q1++q2).Nodup:=by
 rw[List.nodup_append]
 refine⟨h1.nodup,h2.nodup,?_⟩
 intro a ha b hb e
 subst e
 have a1:=(h1.inn a ha).2
 have a2:=(h2.inn a hb).2
 omega
theorem live_perm (h1:Qd l 1 q1)(h2:Qd l 2 q2)(l1: ∀i∈q1,0<(nth l i).rest)(l2: ∀i∈q2,0<(nth l i).rest)(hok:zdm l):(q1++q2).Perm (zbi l):=by
 rw[List.perm_ext_iff_of_nodup (both_nodup h1 h2) (liveIx_nodup l)]
 intro i
 rw[zel,List.mem_append]
 constructor
 .rintro (h|h)
  .exact⟨(h1.inn i h).1,l1 i h⟩
  .exact⟨(h2.inn i h).1,l2 i h⟩
 .rintro ⟨hl,hr⟩
  rcases (hok i hl).side with s|s
  .exact .inl (h1.has i hl s hr)
  .exact .inr (h2.has i hl s hr)
theorem sorted_one {a b:List Nat}(h:a.Perm b)(ha:a.Pairwise (· <= ·))(hb:b.Pairwise (· <= ·)):a=b:=by
 induction a generalizing b with
 |nil=>exact(List.nil_perm.1 h).symm
 |cons x a ih=>
  cases b with
  |nil=>exact absurd h (by simp)
  |cons y b=>
   rw[List.pairwise_cons] at ha hb
   have hx:x∈y::b:=h.subset (by simp)
   have hy:y∈x::a:=h.symm.subset (by simp)
   have e:x=y:=by
    simp only[List.mem_cons] at hx hy
    rcases hx with rfl|hx
    .rfl
    .rcases hy with rfl|hy
     .rfl
     .have:=hb.1 x hx
      have:=ha.1 y hy
      omega
   subst e
   rw[ih ((List.perm_cons x).1 h) ha.2 hb.2]
theorem live_sorted {q:List Nat}(h:q.Perm (zbi l)):q.mergeSort (fun x y=>!decide ((y:Int)<x))=zbi l:=by
 refine sorted_one ((List.mergeSort_perm q _).trans h) ?_ ((zeh l).imp (fun h=>by omega))
 have:=List.pairwise_mergeSort (le:=fun x y:Nat=>!decide ((y:Int)<x)) (by intro a b c h1 h2;simp at *;omega) (by intro a b;simp;omega) q
 refine this.imp ?_
 intro a b hab
 simp at hab
 omega
theorem shown_live (l:List Od):(zbi l).map (nth l)=l.filter fun o=>decide (0<o.rest):=by
 have: ∀n,n<=l.length->((List.range n).filter fun i=>decide (0<(nth l i).rest)).map (nth l)=(l.take n).filter fun o=>decide (0<o.rest):=by
  intro n
  induction n with
  |zero=>intro _;rfl
  |succ n ih=>
   intro hn
   have hget:l[n]?=some (nth l n):=by
    unfold nth
    simp[List.getD_eq_getElem?_getD,show n<l.length by omega]
   rw[List.range_succ,List.filter_append,List.map_append,ih (by omega),zag l n _ hget,List.filter_append]
   congr 1
   by_cases h:0<(nth l n).rest<;>simp[h]
 have h:=this l.length nr
 rw[List.take_length] at h
 exact h
theorem zka (n:Nat)(m:Mk)(i:Nat)(hi:n<=i):nth (zai n m).all i=nth m.all i:=by
 induction n with
 |zero=>rfl
 |succ n ih=>
  unfold zai
  dsimp only
  split
  .unfold zav zax
   dsimp only
   by_cases hn:n<(zai n m).all.length
   .rw[zbs _ _ _ _ hn,if_neg (by omega)]
    exact ih (by omega)
   .unfold zaf
    rw[List.modify_eq_self (by omega)]
    exact ih (by omega)
  .exact ih (by omega)
theorem sweep_skip (n:Nat)(m:Mk)(h:(nth m.all n).rest=0):zai (n+1) m=zai n m:=by
 conv=>lhs;unfold zai
 dsimp only
 rw[if_neg]
 rw[zka n m n nr,h]
 omega
theorem zj9 (m:Mk)(a b:Nat)(hab:a<=b)(h: ∀i,a<=i->i<b->(nth m.all i).rest=0):zai b m=zai a m:=by
 induction b with
 |zero=>rw[show a=0 by omega]
 |succ b ih=>
  by_cases e:a=b+1
  .rw[e]
  .rw[sweep_skip b m (h b (by omega) (by omega)),ih (by omega) (fun i h1 h2=>h i h1 (by omega))]
theorem zer (n:Nat)(m:Mk):(zai n m).phase=m.phase:=(zcg n m).2.1
theorem sweep_one (n:Nat)(m:Mk)(h:0<(nth m.all n).rest):zai (n+1) m=if m.phase=3\/(m.phase=1/\pl (nth m.all n)=true) then zav (zai n m) n else zai n m:=by
 conv=>lhs;unfold zai
 dsimp only
 rw[zka n m n nr,zer]
 by_cases hc:m.phase=3\/(m.phase=1/\pl (nth m.all n)=true)
 .rw[if_pos ⟨h,hc⟩,if_pos hc]
 .rw[if_neg (fun hh=>hc hh.2),if_neg hc]
def swAt (m:Mk) (t:Nat):Nat:=(zbi m.all).getD t m.all.length
theorem swAt_start (m:Mk):zai (swAt m 0) m=m:=by
 have:zai (swAt m 0) m=zai 0 m:=by
  refine zj9 m 0 _ (Nat.zero_le _) fun i _ hi=>?_
  by_cases h0:0<(nth m.all i).rest
  .exfalso
   unfold swAt at hi
   by_cases hil:i<m.all.length
   .have hm:i∈zbi m.all:=(zel _ _).2 ⟨hil,h0⟩
    have hs:=zeh m.all
    cases hL:zbi m.all with
    |nil=>rw[hL] at hm;cases hm
    |cons x L=>
     rw[hL] at hm hs hi
     simp only[List.getD_cons_zero] at hi
     rw[List.pairwise_cons] at hs
     simp only[List.mem_cons] at hm
     rcases hm with rfl|hm
     .omega
     .have:=hs.1 i hm
      omega
   .unfold nth at h0
    rw[List.getD_eq_getElem?_getD,List.getElem?_eq_none (by omega)] at h0
    simp[od0] at h0
  .omega
 rw[this]
 rfl
theorem swAt_step (m:Mk)(t:Nat)(ht:t<(zbi m.all).length):zai (swAt m (t+1)) m=zai ((zbi m.all).getD t 0+1) m:=by
 have hs:=zeh m.all
 have hget:(zbi m.all).getD t 0=(zbi m.all)[t]:=by simp[List.getD_eq_getElem?_getD,ht]
 have hx:=(zel m.all _).1 (List.getElem_mem ht)
 have hle:(zbi m.all)[t]+1<=swAt m (t+1):=by
  unfold swAt
  by_cases h2:t+1<(zbi m.all).length
  .have:=List.pairwise_iff_getElem.1 hs t (t+1) ht h2 (by omega)
   simp only[List.getD_eq_getElem?_getD,h2,List.getElem?_eq_getElem,Option.getD_some]
   omega
  .rw[List.getD_eq_getElem?_getD,List.getElem?_eq_none (by omega)]
   simp only[Option.getD_none]
   omega
 rw[hget]
 refine zj9 m _ _ hle fun i h1 h2=>?_
 by_cases h0:0<(nth m.all i).rest
 .exfalso
  by_cases hil:i<m.all.length
  .have hm:i∈zbi m.all:=(zel _ _).2 ⟨hil,h0⟩
   obtain ⟨k,hk,e⟩:=List.getElem_of_mem hm
   have hkt:t<k:=by
    by_cases hc:k<=t
    .by_cases e2:k=t
     .subst e2;omega
     .have:=List.pairwise_iff_getElem.1 hs k t hk ht (by omega)
      omega
    .omega
   unfold swAt at h2
   have h2':t+1<(zbi m.all).length:=by omega
   simp only[List.getD_eq_getElem?_getD,h2',List.getElem?_eq_getElem,Option.getD_some] at h2
   by_cases e2:k=t+1
   .subst e2;omega
   .have:=List.pairwise_iff_getElem.1 hs (t+1) k h2' hk (by omega)
    omega
  .unfold nth at h0
   rw[List.getD_eq_getElem?_getD,List.getElem?_eq_none (by omega)] at h0
   simp[od0] at h0
 .omega
theorem swAt_end (m:Mk):swAt m (zbi m.all).length=m.all.length:=by
 unfold swAt
 rw[List.getD_eq_getElem?_getD,List.getElem?_eq_none nr]
 rfl
end
section
open Go.RowKit Go.Shelf
structure Bk where
 K:Nat
 M:Nat
 v:Nat->Value
 q:Nat->List Nat
 adr:Nat->Nat
def isSd (s:Nat):Prop:=s=1\/s=2
def Bk.F (b:Bk) (g:Nat):Prop:=g=b.K\/g=b.M\/ ∃s,isSd s/\((b.v s).ownBlock=some g\/ ∃i∈b.q s,g=b.adr i)
def qat (q:List Nat) (k:Nat):Nat:=q.getD k 0
def ptrs (adr:Nat->Nat) (q:List Nat):List Value:=q.map fun i=> .pointer (some ⟨adr i,0,none⟩)
def zi9 (l:List Od):List Lit:=l.map fun o=>Lit.int .i64 o.id
def zb7 (l:List Od):DataW Unit:=Maps.setOf (.agg []) (zi9 l)
structure BKs (w:World) (b:Bk) (ph:Nat) (l:List Od):Prop where
 blk:w.heap[b.K]?=some (.cells #[.slice none 0 0,b.v 1,b.v 2,.map (some b.M)] 149 (0,0))
 row: ∀s,isSd s->w.ownsRow 0 106 1 (b.v s) (b.q s).length (ptrs b.adr (b.q s))
 ord: ∀s,isSd s-> ∀i∈b.q s,OB w (b.adr i) (nth l i) (wt ph (nth l i)) i
 sep: ∀g,(b.v 1).ownBlock=some g->(b.v 2).ownBlock≠some g
 ids:w.ownsMap Tryz.prog 3 (unitElem (H:=Unit)) b.M l.length (zb7 l)
 cnt: ∀s,isSd s->(b.q s).length<=1048576
variable {b:Bk} {l:List Od} {n ph:Nat} {w w':World}
theorem BKs.lt (h:BKs w b ph l){g:Nat}(hg:b.F g):g<w.heap.size:=by
 rcases hg with rfl|rfl|⟨s,hs,hg|⟨i,hi,rfl⟩⟩
 .exact(gsi.1 h.blk).1
 .exact h.ids.lt
 .exact((h.row s hs).lt g hg).2
 .exact(gsi.1 (h.ord s hs i hi)).1
theorem zb6 {B:Nat}{e:TypeId}{size:Nat}{v:Value}{xs:List Value}(h:w.ownsRow B e size v n xs)(hb: ∀g,v.ownBlock=some g->w'.heap[g]?=w.heap[g]?):w'.ownsRow B e size v n xs:=by
 refine⟨h.1,?_⟩
 rcases h.2 with h2|⟨g,cap,cur,rfl,hbg,hg,r⟩
 .exact .inl h2
 .exact .inr ⟨g,cap,cur,rfl,hbg,by rw[hb g rfl];exact hg,r⟩
theorem zcj {b:Nat}{k:TypeId}{R:Value->Option (DataW Unit×List MemPlace)}{D:DataW Unit}(h:w.ownsMap Tryz.prog k R b n D)(hb:w'.heap[b]?=w.heap[b]?):w'.ownsMap Tryz.prog k R b n D:=by
 obtain ⟨es,clock,h1,F,hs,hD⟩:=h
 exact⟨es,clock,hb.trans h1,F,hs,hD⟩
theorem BKs.keep (h:BKs w b ph l)(hk: ∀g,b.F g->w'.heap[g]?=w.heap[g]?):BKs w' b ph l:=by
 refine⟨(hk _ (.inl rfl)).trans h.blk,fun s hs=>zb6 (h.row s hs) fun g hg=>hk g (.inr (.inr ⟨s,hs,.inl hg⟩)),fun s hs i hi=>?_,h.sep,zcj h.ids (hk _ (.inr (.inl rfl))),h.cnt⟩
 exact(hk _ (.inr (.inr ⟨s,hs,.inr ⟨i,hi,rfl⟩⟩))).trans (h.ord s hs i hi)
theorem BKs.ext (h:BKs w b ph l)(hb:Below w.heap.size w w'):BKs w' b ph l:=
 h.keep fun g hg=>hb.block g (h.lt hg)
theorem BKs.cells (h:BKs w b ph l): ∀(i:Nat) (v:Value),(#[.slice none 0 0,b.v 1,b.v 2,.map (some b.M)]:Array Value)[i]?=some v->w.cell? ⟨b.K,i,none⟩=some v:=
 fun i v hv=>by rw[cell_of_row w b.K i _ _ (0,0) h.blk];exact hv
theorem BKs.side (h:BKs w b ph l)(s:Nat)(hs:isSd s):w.cell? ⟨b.K,s,none⟩=some (b.v s):=by
 rcases hs with rfl|rfl
 .exact h.cells 1 _ rfl
 .exact h.cells 2 _ rfl
theorem zjt (adr:Nat->Nat)(q:List Nat)(k:Nat)(hk:k<q.length):(ptrs adr q)[k]?=some (.pointer (some ⟨adr (qat q k),0,none⟩)):=by
 unfold ptrs qat
 simp[List.getD_eq_getElem?_getD,hk]
theorem zbk (q:List Nat)(k:Nat)(hk:k<q.length):qat q k∈q:=by
 unfold qat
 simp[List.getD_eq_getElem?_getD,hk]
theorem BKs.rowOf (h:BKs w b ph l)(s:Nat)(hs:isSd s):
  ∃a cap g,b.v s= .slice a (b.q s).length cap/\(b.q s).length<=1048576/\(0<(b.q s).length->a=some ⟨g,0,none⟩/\(b.v s).ownBlock=some g)/\ ∀k,k<(b.q s).length->w.cell? ⟨g,k,none⟩=some (.pointer (some ⟨b.adr (qat (b.q s) k),0,none⟩)):=by
 rcases (h.row s hs).2 with ⟨h1,h2⟩|⟨g,cap,cur,h1,h2,h3,h4,h5,h6,h7⟩
 .exact⟨none,0,0,by rw[h1,h2],h.cnt s hs,fun h=>by omega,fun k hk=>by omega⟩
 .refine⟨_,cap,g,h1,h.cnt s hs,fun _=>⟨rfl,by rw[h1];rfl⟩,fun k hk=>?_⟩
  rw[cell_of_row w g k cur 106 (0,0) h3]
  have hq:=zjt b.adr (b.q s) k hk
  rw[←h7,List.getElem?_take] at hq
  split at hq
  .simpa using hq
  .cases hq
theorem zj3 (ph:Nat)(o:Od):bk ph o=(!wt ph o&&decide (0<o.rest)):=by
 unfold bk
 rw[Bool.and_comm]
theorem BKs.prF (h:BKs w b ph l)(s:Nat)(hs:isSd s)(g:Nat)(hc: ∀k,k<(b.q s).length->w.cell? ⟨g,k,none⟩=some (.pointer (some ⟨b.adr (qat (b.q s) k),0,none⟩)))(k:Nat):
  PrF g (b.q s).length (fun k=>b.adr (qat (b.q s) k)) k w:=fun hk=>by
 have hO:=(h.ord s hs _ (zbk (b.q s) k hk)).c
 exact⟨hc k hk,_,_,hO.c5,hO.c4⟩
theorem BKs.prI (h:BKs w b ph l)(s:Nat)(hs:isSd s)(k:Nat)(hk:k<(b.q s).length):
  PrI (fun k=>b.adr (qat (b.q s) k)) k w↔bk ph (nth l (qat (b.q s) k))=true:=by
 have hO:=(h.ord s hs _ (zbk (b.q s) k hk)).c
 rw[zj3]
 unfold PrI
 constructor
 .rintro ⟨h5,r,hr,h4⟩
  rw[hO.c5] at h5
  rw[hO.c4] at h4
  simp only[Option.some.injEq,Value.bool.injEq,Value.int.injEq,true_and] at h5 h4
  rw[h5,decide_eq_true (show 0<(nth l (qat (b.q s) k)).rest by omega)]
  rfl
 .intro hb
  simp only[Bool.and_eq_true,Bool.not_eq_true',decide_eq_true_eq] at hb
  exact⟨by rw[hO.c5,hb.1],_,hb.2,hO.c4⟩
end
section
open Go.RowKit Go.Shelf
attribute [local go_sem] Oper.semAt_some
theorem zjw (x:Int)(h0: -9223372036854775808<=x)(h1:x<9223372036854775808):IntKind.i64.wrap x=x:=by
 rw[IntKind.wrap_i64]
 omega
theorem zek (args:Array Value)(w:World):(callFunc 218 args).run Tryz.prog w= .ok (.enter 218 args) w:=enters_of Tryz.func218 (by kernel_rfl) rfl args w
structure Vb (W:World) (E:Nat) (v:Value):Prop where
 cell:W.cell? ⟨E,0,none⟩=some v
 free:W.frozen? ⟨E,0,none⟩=false
 lt:E<W.heap.size
variable {E s:Nat} {v:Value} {W w1:World}
theorem Vb.ext (h:Vb W E v)(hb:Below W.heap.size W w1):Vb w1 E v:=
 ⟨(hb.cell h.lt).trans h.cell,(hb.frozen h.lt).trans h.free,lll h.lt hb.size⟩
theorem Vb.same (h:Vb W E v)(hs:W.heap.size<=w1.heap.size)(hb:w1.heap[E]?=W.heap[E]?):Vb w1 E v:=
 ⟨(World.cell?_of_block (a:=⟨E,0,none⟩) hb).trans h.cell,(World.frozen?_of_block (a:=⟨E,0,none⟩) hb).trans h.free,lll h.lt hs⟩
theorem Vb.set (h:Vb W E v)(x:Value):Vb (W.setCell ⟨E,0,none⟩ x) E x:=
 ⟨World.cell?_setCell_same _ _ _ h.cell,by rw[World.frozen?_setCell];exact h.free,by simpa using h.lt⟩
theorem Vb.new (w:World)(v:Value)(t:TypeId):Vb (w.alloc (.cells #[v] t)) w.heap.size v:=by
 have hb:=heap_alloc_new w (.cells #[v] t)
 refine⟨by rw[cell_of_row _ _ 0 _ _ (0,0) hb];rfl,?_,by simp⟩
 simp only[World.frozen?,hb]
 simp
theorem Vb.alloc (h:Vb W E v)(o:Obj):Vb (W.alloc o) E v:=h.ext (br.alloc nr _)
theorem Vb.set_other {D j:Nat}{x:Value}(h:Vb W E v)(hD:D≠E):Vb (W.setCell ⟨D,j,none⟩ x) E v:=
 h.same (by simp[World.setCell]) (bhs W ⟨D,j,none⟩ x E (fun e=>hD e.symm))
theorem Vb.kept {W':World}{row:Option Nat}(h:Vb W E v)(hg:W.grownBy W' row)(hr: ∀r,row=some r-> ∃o:Obj,W.heap[r]?=some o/\o.isCells=false):Vb W' E v:=
 ⟨cell_kept h.cell hg hr,(frozen_kept h.cell hg hr).trans h.free,lll h.lt hg.size⟩
structure Itr (w:World) (Bb Bs K s:Nat):Prop where
 cb:w.cell? ⟨Bb,0,none⟩=some (.pointer (some ⟨K,0,none⟩))
 cs:w.cell? ⟨Bs,0,none⟩=some (.int .i64 (s:Nat))
def itv (Bb Bs:Nat):Value:= .func (.func 218) #[] #[.pointer (some ⟨Bb,0,none⟩),.pointer (some ⟨Bs,0,none⟩)]
theorem Itr.ext {w w':World}{Bb Bs K:Nat}(h:Itr w Bb Bs K s)(hb:Below w.heap.size w w'):Itr w' Bb Bs K s:=⟨zaa hb h.cb,zaa hb h.cs⟩
def bsum (ph:Nat) (l:List Od) (q:List Nat):Nat:=(q.map fun i=>if bk ph (nth l i) then (nth l i).rest else 0).sum
theorem qdep_split (ph:Nat)(l:List Od)(p:Nat)(pre post:List Nat)(h: ∀i∈pre,bk ph (nth l i)=true->tkP (nth l i) p=true):qdep ph l p (pre++post)=bsum ph l pre+qdep ph l p post:=by
 induction pre with
 |nil=>simp[bsum]
 |cons i pre ih=>
  have ih':=ih (fun j hj=>h j (by simp[hj]))
  unfold bsum at *
  simp only[List.cons_append,qdep,List.map_cons,List.sum_cons,ih']
  by_cases hb:bk ph (nth l i)=true
  .rw[if_pos hb,if_pos (h i (by simp) hb),if_pos hb]
   omega
  .rw[if_neg hb,if_neg hb]
   omega
theorem zfa (q:List Nat)(k:Nat)(hk:k<q.length):q[k]?=some (qat q k):=by
 unfold qat
 simp[List.getD_eq_getElem?_getD,hk]
theorem zla (ph:Nat)(l:List Od)(q:List Nat)(k:Nat)(hk:k<q.length):bsum ph l (q.take (k+1))=bsum ph l (q.take k)+if bk ph (nth l (qat q k)) then (nth l (qat q k)).rest else 0:=by
 rw[zag q k (qat q k) (zfa q k hk)]
 unfold bsum
 simp
theorem split_at (q:List Nat)(k:Nat)(hk:k<q.length):q=q.take k++qat q k::q.drop (k+1):=by
 have:qat q k=q[k]:=by unfold qat;simp[List.getD_eq_getElem?_getD,hk]
 rw[this,List.getElem_cons_drop,List.take_append_drop]
theorem qdep_stop (ph:Nat)(l:List Od)(p:Nat)(q:List Nat)(k:Nat)(hk:k<q.length)(hb:bk ph (nth l (qat q k))=true)(ht:tkP (nth l (qat q k)) p=false):qdep ph l p (q.drop k)=0:=by
 have e:q.drop k=qat q k::q.drop (k+1):=by
  unfold qat
  rw[←List.getElem_cons_drop hk]
  simp[List.getD_eq_getElem?_getD,hk]
 rw[e]
 simp only[qdep]
 rw[if_pos hb,ht]
 rfl
theorem zcw (q:List Nat)(k:Nat)(i:Nat)(h:i∈q.take (k+1))(hk:k<q.length):i∈q.take k\/i=qat q k:=by
 rw[zag q k (qat q k) (zfa q k hk)] at h
 simpa using h
theorem bsum_le {l:List Od}{q:List Nat}(h:Qd l s q)(ph k:Nat):bsum ph l (q.take k)<=zba l s:=by
 rw[←h.total]
 have: ∀q:List Nat,bsum ph l q<=(q.map fun i=>(nth l i).rest).sum:=by
  intro q
  unfold bsum
  induction q with
  |nil=>exact nr
  |cons a q ih=>
   simp only[List.map_cons,List.sum_cons]
   split<;>omega
 have h2: ∀(q:List Nat) (k:Nat),((q.take k).map fun i=>(nth l i).rest).sum<=(q.map fun i=>(nth l i).rest).sum:=by
  intro q
  induction q with
  |nil=>simp
  |cons a q ih=>
   intro k
   cases k with
   |zero=>simp
   |succ k=>
    have:=ih k
    simp only[List.take_succ_cons,List.map_cons,List.sum_cons]
    omega
 exact llt (this _) (h2 q k)
theorem restsAt1_any (b:Bk)(ph:Nat)(l:List Od)(s:Nat)(hs:isSd s)(Bo Bb Bs p:Nat)(w:World)(R:EW)(h:BKs w b ph l)(hI:Itr w Bb Bs b.K s)(ho:w.cell? ⟨Bo,0,none⟩=some (itv Bb Bs))
  (hq:Qd l s (b.q s))(hsum:zba l s<=1000000000)(hR: ∀w',Below w.heap.size w w'->R (.returned (.int .i64 (qdep ph l p (b.q s):Nat))) w'):
  Calls Tryz.prog 211 #[.int .i64 (p:Nat),.pointer (some ⟨Bo,0,none⟩)] w R:=by
 refine(callsIn_wide (n:=2)).1 ?_
 refine callsIn_of_wp_marks Tryz.func211 rfl trivial ?_ rfl
 simp only[Tryz.ntmps211,List.size_toArray,List.length_cons,List.length_nil,Nat.reduceAdd,Nat.reduceSub,Array.replicate_succ,Array.replicate_zero,List.push_toArray,List.append_toArray,List.nil_append,List.cons_append]
 unfold itv at ho
 have hlt:=zab ho
 gi_wp2
 obtain ⟨W0,hW0⟩: ∃W0,(w.alloc (.cells #[.int .i64 (p:Nat)] 3)).alloc (.cells #[.int .i64 0] 3)=W0:=⟨_,rfl⟩
 have hs0:W0.heap.size=w.heap.size+2:=by rw[←hW0];simp
 have hBW:Below w.heap.size w W0:=by rw[←hW0];exact((Below.refl _ w).alloc nr _).alloc (by simp) _
 have v0:Vb W0 w.heap.size (.int .i64 (p:Nat)):=by rw[←hW0];exact(Vb.new w _ _).alloc _
 have v1:Vb W0 (w.heap.size+1) (.int .i64 ((bsum ph l ((b.q s).take 0):Nat):Int)):=by rw[←hW0];have:=Vb.new (w.alloc (.cells #[.int .i64 (p:Nat)] 3)) (.int .i64 0) 3;simpa [bsum] using this
 rw[hW0]
 obtain ⟨a,cap,g,hv,hN,ha,hc⟩:=h.rowOf s hs
 have hfin: ∀(k:Nat) (D:Nat) (W:World),W0.heap.size<=D->(∀i∈(b.q s).take k,bk ph (nth l i)=true->tkP (nth l i) p=true)->qdep ph l p ((b.q s).drop k)=0->Vb W (w.heap.size+1) (.int .i64 ((bsum ph l ((b.q s).take k):Nat):Int))->Below w.heap.size w W->W.heap[D]?=some (.deferred (some []))->
   R (.returned (.int .i64 ((bsum ph l ((b.q s).take k):Nat):Int))) (W.putObj D (.deferred none)):=by
  intro k D W hD h1 h2 _ hB hK
  have e:qdep ph l p (b.q s)=bsum ph l ((b.q s).take k):=by
   have:=qdep_split ph l p ((b.q s).take k) ((b.q s).drop k) h1
   rw[List.take_append_drop,h2] at this
   exact this
  rw[←e]
  exact hR _ (hB.trans (belowK_b (w:=w) nr W D _ _ (by omega) hK rfl rfl))
 refine zc7 (F:=Fence.wide) (n:=2) rfl (by decide) (gf:=218) (lb:= #[.pointer (some ⟨Bb,0,none⟩),.pointer (some ⟨Bs,0,none⟩)]) rfl trivial zek
  (zgk (2-1) Bb Bs b.K s g (b.q s).length cap a (fun k=>b.adr (qat (b.q s) k)) (fun h=>(ha h).1) hs (by omega)) rfl
  (fun W hg=>?g) (fun k W=>(Below w.heap.size w W/\Vb W w.heap.size (.int .i64 (p:Nat)))/\Vb W (w.heap.size+1) (.int .i64 ((bsum ph l ((b.q s).take k):Nat):Int))/\ ∀i∈(b.q s).take k,bk ph (nth l i)=true->tkP (nth l i) p=true)
  (fun c W=>c= .exit 0/\Below w.heap.size w W/\ ∃k,k<(b.q s).length/\Vb W (w.heap.size+1) (.int .i64 ((bsum ph l ((b.q s).take k):Nat):Int))/\(∀i∈(b.q s).take k,bk ph (nth l i)=true->tkP (nth l i) p=true)/\bk ph (nth l (qat (b.q s) k))=true/\tkP (nth l (qat (b.q s) k)) p=false)
  ?hJ ?hJx ⟨⟨hBW,v0⟩,v1,by simp⟩ ?hPhi ?hskip
  (fun k a' _=>bk ph (nth l (qat (b.q s) k))=true/\a'={tmps:= #[.int .i64 (p:Nat),.pointer (some ⟨Bo,0,none⟩),.pointer (some ⟨w.heap.size,0,none⟩),.int .i64 0,.pointer (some ⟨w.heap.size+1,0,none⟩),.pointer (some ⟨b.adr (qat (b.q s) k),0,none⟩),itv Bb Bs,.pointer (some ⟨b.adr (qat (b.q s) k),0,none⟩),undef,undef,undef,undef,undef,undef,undef,undef,undef,undef,undef,undef],defers:=[]})
  ?hAx ?hassign ?hbody ?hdone ?hstop
 case g=>
  have hb:Below w.heap.size w W:=hBW.grown hg (by omega) (fun j e=>by cases e)
  exact⟨zaa hb hI.cb,zaa hb hI.cs,by rw[←hv];exact(h.ext hb).side s hs⟩
 case hJ=>
  exact fun k A A' row hj hg hr=>⟨⟨ownFrom_below (β:=Unit) nr (by omega) () A A' row hj.1.1 hg hr,hj.1.2.kept hg (fun r e=>(hr r e).2)⟩,hj.2.1.kept hg (fun r e=>(hr r e).2),hj.2.2⟩
 case hJx=>
  rintro c _ A A' row ⟨h1,h2,k,hk,h3,h4⟩ hg hr
  exact⟨h1,ownFrom_below (β:=Unit) nr (by omega) () A A' row h2 hg hr,k,hk,h3.kept hg (fun r e=>(hr r e).2),h4⟩
 case hPhi=>
  intro k W hj
  have hb:=hj.1.1
  exact(h.ext hb).prF s hs g (fun k hk=>zaa hb (hc k hk)) k
 case hskip=>
  intro k W hk hj hin
  have hb:=hj.1.1
  rw[(h.ext hb).prI s hs k hk] at hin
  refine⟨hj.1,?_,fun i hi hbi=>?_⟩
  .rw[zla ph l (b.q s) k hk,if_neg hin]
   exact hj.2.1
  .rcases zcw (b.q s) k i hi hk with h1|rfl
   .exact hj.2.2 i h1 hbi
   .exact absurd hbi hin
 case hAx=>exact fun k a' _ A A' row hj hg hr=>hj
 case hassign=>
  intro l' k W K hk hj hin hK
  have hbk:=((h.ext hj.1.1).prI s hs k hk).1 hin
  gi_wp2
  exact hK _ _ (KeepsFrom.refl _ _) hj ⟨hbk,rfl⟩
 case hbody=>
  rintro l' k a' W hk hl hr ⟨⟨hB,u0⟩,u1,hall⟩ ⟨hbk,rfl⟩
  have hO:=((h.ext hB).ord s hs _ (zbk (b.q s) k hk)).c
  have c1:=hO.c1
  have c3:=hO.c3
  have c4:=hO.c4
  have hE:b.adr (qat (b.q s) k)<w.heap.size:=zab (h.ord s hs _ (zbk (b.q s) k hk)).c.c1
  have x0:=u0.cell
  have x1:=u1.cell
  have y1:=u1.free
  have z1:=u1.lt
  have hle:bsum ph l ((b.q s).take k)<=1000000000:=llt (bsum_le hq ph k) hsum
  have hle2:bsum ph l ((b.q s).take (k+1))<=1000000000:=llt (bsum_le hq ph (k+1)) hsum
  rw[zla ph l (b.q s) k hk,if_pos hbk] at hle2
  obtain ⟨E,hEe⟩: ∃E,b.adr (qat (b.q s) k)=E:=⟨_,rfl⟩
  obtain ⟨o,hoe⟩: ∃o,nth l (qat (b.q s) k)=o:=⟨_,rfl⟩
  obtain ⟨t,hte⟩: ∃t,bsum ph l ((b.q s).take k)=t:=⟨_,rfl⟩
  rw[hEe] at c1 c3 c4 hE ⊢
  rw[hoe] at c1 c3 c4 hle2
  rw[hte] at x1 hle hle2
  have hf:(Fence.wide.inRound l').fn 186:=trivial
  have HD:Hid ((Fence.wide.inRound l').depth.isSome=true->False):=fun h=>by cases h
  unfold itv
  clear h hI ho hq hR hfin hc ha hO v0 v1 hBW hW0
  gi_wp2
  refine⟨trivial,rfl,CallsIn.inRound l' (callsIn_wide.2 (zis E o p _ _ c1 c3 ?_))⟩
  cases ht:tkP o p with
  |false=>
   gi_wp2
   exact⟨KeepsFrom.refl _ _,rfl,hB,k,hk,u1,hall,hbk,by rw[hoe];exact ht⟩
  |true=>
   gi_wp2
   gi_region
   gi_wp2
   all_goals
    rw[show IntKind.i64.wrap ((t:Int)+o.rest)=((t+o.rest:Nat):Int) from zjw _ (by omega) (by omega)]
    refine⟨(((KeepsOthers.setCell W ⟨w.heap.size+1,0,none⟩ _).trans (KeepsOthers.drew _)).from _),⟨(hB.setCell (p:=⟨w.heap.size+1,0,none⟩) (by simp) _).drew,((u0.set_other (by omega)).ext br.drew)⟩,?_,fun i hi hbi=>?_⟩
    .rw[zla ph l (b.q s) k hk,if_pos hbk,hoe,hte]
     exact(u1.set _).ext br.drew
    .rcases zcw (b.q s) k i hi hk with h1|rfl
     .exact hall i h1 hbi
     .rw[hoe];exact ht
 case hdone=>
  rintro D W hD ⟨⟨hB,u0⟩,u1,hall⟩ hK
  have x1:=u1.cell
  have HF:=hfin (b.q s).length D W hD hall (by simp[qdep]) u1 hB hK
  clear hfin
  gi_wp2
  refine⟨by simp,.inl ⟨_,_,rfl,run_takeDeferred hK,?_⟩⟩
  refine⟨_,?_,HF⟩
  simp[results,Tryz.f211,go_sem]
 case hstop=>
  rintro D c W hD ⟨rfl,hB,k,hk,u1,hall,hb,ht⟩ hK
  have x1:=u1.cell
  have HF:=hfin k D W hD hall (qdep_stop ph l p (b.q s) k hk hb ht) u1 hB hK
  clear hfin
  gi_wp2
  refine⟨by simp,.inl ⟨_,_,rfl,run_takeDeferred hK,?_⟩⟩
  refine⟨_,?_,HF⟩
  simp[results,Tryz.f211,go_sem]
end
