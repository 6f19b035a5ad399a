import Derived.Test.YtmiiejinahnpkaaGreatDoorXIgIm
import Derived.Shelf.SlSortCmp.NoneTotal
import Derived.Ground.SlsfProg
import Derived.Lib.SortBridge
import Derived.Test.YtmiiejinahnpkaaGreatDoorXBfAc
set_option maxRecDepth 8000
set_option maxHeartbeats 1000000
namespace Go.Proofs
open Go.Shelf
def Tryz.sortL_ren:Go.Shelf.Ren:=⟨fun|6=>89|15=>113|14=>112|28=>156|29=>157|20=>148|21=>149|22=>150|23=>151|24=>152|25=>153|26=>154|27=>155|46=>178|47=>179|48=>180|49=>181|50=>182|57=>207|n=>n,fun|22=>101|24=>106|25=>152|3=>3|39=>162|0=>0|53=>178|55=>141|4=>4|46=>193|45=>192|50=>197|5=>5|9=>9|66=>215|70=>219|76=>237|77=>187|n=>n,fun|n=>n⟩
theorem Tryz.sortL:Go.Proofs.SlLaysF.n6 Tryz.prog Tryz.sortL_ren:={
 mixed:=by kernel_rfl
 f6:=⟨Tryz.f89.name,by decide,Tryz.func89.trans (congrArg some (by kernel_rfl))⟩
 f14:=⟨Tryz.f112.name,by decide,Tryz.func112.trans (congrArg some (by kernel_rfl))⟩
 f15:=Tryz.func113.trans (congrArg some (by kernel_rfl))
 f20:=⟨Tryz.f148.name,by decide,Tryz.func148.trans (congrArg some (by kernel_rfl))⟩
 f21:=⟨Tryz.f149.name,by decide,Tryz.func149.trans (congrArg some (by kernel_rfl))⟩
 f22:=⟨Tryz.f150.name,by decide,Tryz.func150.trans (congrArg some (by kernel_rfl))⟩
 f23:=⟨Tryz.f151.name,by decide,Tryz.func151.trans (congrArg some (by kernel_rfl))⟩
 f24:=⟨Tryz.f152.name,by decide,Tryz.func152.trans (congrArg some (by kernel_rfl))⟩
 f25:=⟨Tryz.f153.name,by decide,Tryz.func153.trans (congrArg some (by kernel_rfl))⟩
 f26:=⟨Tryz.f154.name,by decide,Tryz.func154.trans (congrArg some (by kernel_rfl))⟩
 f27:=⟨Tryz.f155.name,by decide,Tryz.func155.trans (congrArg some (by kernel_rfl))⟩
 f28:=Tryz.func156.trans (congrArg some (by kernel_rfl))
 f29:=Tryz.func157.trans (congrArg some (by kernel_rfl))
 f46:=⟨Tryz.f178.name,by decide,Tryz.func178.trans (congrArg some (by kernel_rfl))⟩
 f47:=Tryz.func179.trans (congrArg some (by kernel_rfl))
 f48:=Tryz.func180.trans (congrArg some (by kernel_rfl))
 f49:=⟨Tryz.f181.name,by decide,Tryz.func181.trans (congrArg some (by kernel_rfl))⟩
 f50:=⟨Tryz.f182.name,by decide,Tryz.func182.trans (congrArg some (by kernel_rfl))⟩
 f57:=⟨Tryz.f207.name,by decide,Tryz.func207.trans (congrArg some (by kernel_rfl))⟩
 t0:=Tryz.underlying0
 a0:=Tryz.isAgg0
 z0:=Tryz.sizeOf0
 v0:=Tryz.zeroValue0
 t3:=Tryz.underlying3
 a3:=Tryz.isAgg3
 z3:=Tryz.sizeOf3
 v3:=Tryz.zeroValue3
 t4:=Tryz.underlying4
 a4:=Tryz.isAgg4
 z4:=Tryz.sizeOf4
 v4:=Tryz.zeroValue4
 t5:=Tryz.underlying5
 a5:=Tryz.isAgg5
 z5:=Tryz.sizeOf5
 v5:=Tryz.zeroValue5
 t9:=Tryz.underlying9
 a9:=Tryz.isAgg9
 z9:=Tryz.sizeOf9
 v9:=Tryz.zeroValue9
 t22:=Tryz.underlying101
 a22:=Tryz.isAgg101
 z22:=Tryz.sizeOf101
 v22:=Tryz.zeroValue101
 a24:=Tryz.isAgg106
 z24:=Tryz.sizeOf106
 t25:=Tryz.underlying152
 a25:=Tryz.isAgg152
 z25:=Tryz.sizeOf152
 v25:=Tryz.zeroValue152
 t39:=Tryz.underlying162
 a39:=Tryz.isAgg162
 z39:=Tryz.sizeOf162
 v39:=Tryz.zeroValue162
 t45:=Tryz.underlying192
 a45:=Tryz.isAgg192
 z45:=Tryz.sizeOf192
 v45:=Tryz.zeroValue192
 t46:=Tryz.underlying193
 a46:=Tryz.isAgg193
 z46:=Tryz.sizeOf193
 v46:=Tryz.zeroValue193
 t50:=Tryz.underlying197
 a50:=Tryz.isAgg197
 z50:=Tryz.sizeOf197
 v50:=Tryz.zeroValue197
 t53:=Tryz.underlying178
 a53:=Tryz.isAgg178
 z53:=Tryz.sizeOf178
 v53:=Tryz.zeroValue178
 t55:=Tryz.underlying141
 a55:=Tryz.isAgg141
 z55:=Tryz.sizeOf141
 v55:=Tryz.zeroValue141
 t66:=Tryz.underlying215
 a66:=Tryz.isAgg215
 z66:=Tryz.sizeOf215
 v66:=Tryz.zeroValue215
 t70:=Tryz.underlying219
 a70:=Tryz.isAgg219
 z70:=Tryz.sizeOf219
 v70:=Tryz.zeroValue219
 t76:=Tryz.underlying237
 a76:=Tryz.isAgg237
 z76:=Tryz.sizeOf237
 v76:=Tryz.zeroValue237
 t77:=Tryz.underlying187
 a77:=Tryz.isAgg187
 z77:=Tryz.sizeOf187
 v77:=Tryz.zeroValue187}
end Go.Proofs
namespace Go.Proofs.YtmiiejinahnpkaaGreatDoor
open Go.RowKit Go.Shelf Go.Lib Go.Sort
theorem ltCmp (x y:Nat):decide (cmpOf x y<0)=decide ((x:Int)<y):=by
 unfold cmpOf
 by_cases h1:x<y
 .simp[h1]
 .by_cases h2:y<x<;>simp[h1,h2]
abbrev Mb (Q:List Nat):={i:Nat//i∈Q}
def mcf (Q:List Nat) (x y:Mb Q):Int:=cmpOf x.1 y.1
theorem ltM (Q:List Nat)(x y:Mb Q):ltOf (mcf Q) x y=decide ((x.1:Int)<y.1):=ltCmp x.1 y.1
theorem swoM (Q:List Nat):SWO (ltOf (mcf Q)) where
 irrefl x:=by rw[ltM];simp
 trans x y z h1 h2:=by rw[ltM] at *;simp at *;omega
 ntrans x y z h1 h2:=by rw[ltM] at *;simp at *;omega
theorem totM (Q:List Nat)(x y:Mb Q)(h1:ltOf (mcf Q) x y=false)(h2:ltOf (mcf Q) y x=false):x=y:=by
 rw[ltM] at *
 simp at *
 exact Subtype.ext (by omega)
theorem bLive1_reads (A B:Nat)(i j:Nat)(w:World)(ci:w.cell? ⟨A,6,none⟩=some (.int .i64 (i:Nat)))(cj:w.cell? ⟨B,6,none⟩=some (.int .i64 (j:Nat))):
  Calls Tryz.prog 90 #[.pointer (some ⟨A,0,none⟩),.pointer (some ⟨B,0,none⟩)] w fun e w'=>e= .returned (.int .i64 (cmpOf i j))/\ ∃q,w'=w.drewN q:=by
 go_enter Tryz.func90,Tryz.ntmps90
 go_wp2_with fail
 go_quiet ((go_at_call 91;exact Calls.quiet_of_same (cmpInt_any i j _ _ ⟨rfl,rfl⟩)))
 go_wp2_with fail
 go_ret
 exact⟨rfl,_,rfl⟩
theorem sort_same (Q:List Nat):((Q.attach.mergeSort fun x y=>!ltOf (mcf Q) y x).map fun x=>x.1)=Q.mergeSort (fun x y=>!decide ((y:Int)<x)):=by
 rw[List.map_mergeSort (s:=fun x y:Nat=>!decide ((y:Int)<x)) (fun a _ b _=>by rw[ltM])]
 congr 1
 exact List.attach_map_subtype_val Q
theorem zhk {α:Type}[Inhabited α](enc:α->Value)(W:World)(blk off n:Nat)(dk:Array α)(os:Array Obj)(a:Addr)(h1:a.block≠blk)(h2:a.block<W.heap.size):(sortWorld enc W blk off n dk os).cell? a=W.cell? a:=by
 unfold sortWorld
 rw[cell?_grow _ _ _ (by rw[size_putRow];exact h2),cell?_putRow_other enc _ blk off dk a (Or.inl h1)]
 rfl
theorem grow_at (W:World)(os:Array Obj)(k:Nat)(h:k<W.heap.size):(grow W os).heap[k]?=W.heap[k]?:=by
 unfold grow
 exact Array.getElem?_append_left h
theorem Sort_any (adr:Nat->Nat)(Q:List Nat)(N:Nat)(v:Value)(w:World)(R:EW)(hr:w.ownsRow N 106 1 v Q.length (ptrs adr Q))(hN:N<=w.heap.size)(hQ:Q.length<=2097152)(hlt: ∀i∈Q,adr i<N)(hc: ∀i∈Q,w.cell? ⟨adr i,6,none⟩=some (.int .i64 (i:Nat)))
  (hR: ∀w',w'.ownsRow N 106 1 v Q.length (ptrs adr (Q.mergeSort (fun x y=>!decide ((y:Int)<x))))->Below N w w'->R (.returned (.tuple #[])) w'):
  Calls Tryz.prog 89 #[v,.func (.func 90) #[] #[]] w R:=by
 have eg: ∀args w,(callFunc 90 args).run Tryz.prog w= .ok (.enter 90 args) w:=enters_of Tryz.func90 (by kernel_rfl) rfl
 by_cases h0:Q=[]
 .subst h0
  obtain ⟨a,c,rfl⟩:=zae hr
  have hS:=AnyF.slices_SortFunc_none (P:=Tryz.prog) (ρ:=Tryz.sortL_ren) {Tryz.sortL with} a c (.func (.func 90) #[] #[]) w
  change Calls Tryz.prog 89 _ _ _ at hS
  refine hS.mono ?_
  rintro e w' ⟨rfl,rfl⟩
  exact hR w' (by simpa using hr) br
 .rcases hr.2 with ⟨_,h2⟩|⟨g,cap,cur,rfl,hNg,hg,h4,h5,h6,h7⟩
  .exact absurd (List.eq_nil_of_length_eq_zero h2) h0
  .obtain ⟨i0,hi0⟩:=List.exists_mem_of_ne_nil Q h0
   letI:Inhabited (Mb Q):=⟨⟨i0,hi0⟩⟩
   have hgl:g<w.heap.size:=(gsi.1 hg).1
   have hH:Holds (fun x:Mb Q=>Value.pointer (some ⟨adr x.1,0,none⟩)) w g 0 Q.attach.toArray:=by
    intro j hj
    simp only[List.size_toArray,List.length_attach] at hj
    refine⟨?_,by simp[World.frozen?,hg]⟩
    rw[cell_of_row w g (0+j) cur _ (0,0) hg]
    have:=cur_at (q:=Q) (adr:=adr) (by simpa using h7) j hj
    simp only[Nat.zero_add]
    rw[this,getElem!_pos _ j (by simpa using hj)]
    unfold qat
    simp[List.getD_eq_getElem?_getD,hj]
   have hcr:CmpReads Tryz.prog 90 #[] (fun x:Mb Q=>Value.pointer (some ⟨adr x.1,0,none⟩)) (mcf Q) g 0 Q.attach.toArray.size w:=by
    intro m os dk _ x y
    exact bLive1_reads (adr x.1) (adr y.1) x.1 y.1 _ (by rw[zhk _ _ _ _ _ _ _ _ (by have:=hlt x.1 x.2;show adr x.1≠g;omega) (by have:=hlt x.1 x.2;show adr x.1<_;omega)];exact hc x.1 x.2) (by rw[zhk _ _ _ _ _ _ _ _ (by have:=hlt y.1 y.2;show adr y.1≠g;omega) (by have:=hlt y.1 y.2;show adr y.1<_;omega)];exact hc y.1 y.2)
   have hS:=Any.slices_SortFunc_total Tryz.sortL (fun x:Mb Q=>Value.pointer (some ⟨adr x.1,0,none⟩)) (fun _=>rfl) (mcf Q) (swoM Q) 90 #[] g 0 cap Q.attach.toArray w eg hcr.lays hH hgl (by simp;omega) (totM Q)
   change Calls Tryz.prog 89 _ _ _ at hS
   rw[show Q.attach.toArray.size=Q.length by simp] at hS
   refine hS.mono ?_
   rintro e w' ⟨rfl,n,os,rfl⟩
   have hys:(Q.attach.toArray.toList.mergeSort fun x y=>!(ltOf (mcf Q)) y x).length=Q.attach.toArray.size:=by simp
   have hw:=Lib.sorted_world (fun x:Mb Q=>Value.pointer (some ⟨adr x.1,0,none⟩)) w g 0 n Q.attach.toArray _ os hH hys
   have hm:((Q.attach.toArray.toList.mergeSort fun x y=>!(ltOf (mcf Q)) y x).map fun x:Mb Q=>Value.pointer (some ⟨adr x.1,0,none⟩))=ptrs adr (Q.mergeSort (fun x y=>!decide ((y:Int)<x))):=by
    rw[←sort_same]
    unfold ptrs
    rw[List.map_map]
    rfl
   rw[hm] at hw
   have hl:(ptrs adr (Q.mergeSort (fun x y=>!decide ((y:Int)<x)))).length=Q.length:=by rw[zdv];simp
   have h6':cur.size=cap:=by simpa using h6
   have hblk:=zd3 g 106 (ptrs adr (Q.mergeSort (fun x y=>!decide ((y:Int)<x)))) 0 (w.drewN n) cur hg (by omega)
   obtain ⟨f1,f2,f3,f4,f5⟩:=zd2 g (ptrs adr (Q.mergeSort (fun x y=>!decide ((y:Int)<x)))) 0 (w.drewN n)
   have hsz:((w.drewN n).setCells g 0 (ptrs adr (Q.mergeSort (fun x y=>!decide ((y:Int)<x))))).heap.size=w.heap.size:=f4
   unfold sortWorld
   rw[hw]
   refine hR _ ⟨by rw[hl];omega,.inr ⟨g,cap,_,rfl,hNg,(grow_at _ _ _ (by rw[hsz];exact hgl)).trans hblk,h4,h5,?_,?_⟩⟩ ⟨f1,f2,f3,?_,fun k hk=>?_⟩
   .simp only[Nat.zero_add,List.take_zero,List.nil_append,List.size_toArray,List.length_append,List.length_drop,Array.length_toList,hl,Nat.mul_one]
    omega
   .simp only[Nat.mul_one,Nat.zero_add,List.take_zero,List.nil_append]
    rw[←hl,List.take_left']
    rfl
   .unfold grow
    rw[Array.size_append,hsz]
    omega
   .rw[grow_at _ _ _ (by rw[hsz];omega),f5 k (by omega)]
    rfl
theorem bLive_any (b:Bk)(ph:Nat)(l:List Od)(w:World)(R:EW)(h:BKs w b ph l)(hok:zdm l)(h1:Qd l 1 (b.q 1))(h2:Qd l 2 (b.q 2))(l1: ∀i∈b.q 1,0<(nth l i).rest)(l2: ∀i∈b.q 2,0<(nth l i).rest)
  (hR: ∀v w',w'.ownsRow w.heap.size 106 1 v (zbi l).length (ptrs b.adr (zbi l))->Below w.heap.size w w'->R (.returned v) w'):
  Calls Tryz.prog 54 #[.pointer (some ⟨b.K,0,none⟩)] w R:=by
 have HR:=zl hR
 have HB:=zl h
 have hp:=live_perm h1 h2 l1 l2 hok
 have Hs:Hid ((b.q 1++b.q 2).mergeSort (fun x y=>!decide ((y:Int)<x))=zbi l):=live_sorted hp
 have Hl:=zl (hp.length_eq)
 have HO:Hid (∀i∈b.q 1++b.q 2,OB w (b.adr i) (nth l i) (wt ph (nth l i)) i):=by
  intro i hi
  rcases List.mem_append.1 hi with hi|hi
  .exact h.ord 1 (.inl rfl) i hi
  .exact h.ord 2 (.inr rfl) i hi
 have n1:=h.cnt 1 (.inl rfl)
 have n2:=h.cnt 2 (.inr rfl)
 clear hR h hp h1 h2 l1 l2 hok
 go_enter Tryz.func54,Tryz.ntmps54
 go_wp2_with fail
 refine Concat_any b ph l _ _ HB.o ?_
 intro v W1 hr1 hb1
 rw[←zfp,←List.length_append] at hr1
 obtain ⟨a,c,rfl⟩:=zae hr1
 obtain ⟨n,hn⟩: ∃n,(b.q 1++b.q 2).length=n:=⟨_,rfl⟩
 have Hr1:Hid (W1.ownsRow w.heap.size 106 1 (.slice a n c) (b.q 1++b.q 2).length (ptrs b.adr (b.q 1++b.q 2))):=by
  rw[hn] at hr1 ⊢
  exact hr1
 rw[hn]
 clear hn
 have Hb1:=zl hb1
 clear hr1 hb1
 go_wp2_with fail
 refine Sort_any b.adr (b.q 1++b.q 2) w.heap.size _ _ _ Hr1.o Hb1.o.size (by rw[List.length_append];omega) (fun i hi=>(HO.o i hi).lt) (fun i hi=>((HO.o i hi).ext Hb1.o).c.c6) ?_
 intro W2 hr2 hb2
 rw[Hs.o,Hl.o] at hr2
 have hfin:Hid (R (.returned (.slice a n c)) W2):=HR.o _ W2 hr2 (Hb1.o.trans hb2)
 clear hr2 hb2 HR HB Hs Hl HO Hr1 Hb1
 go_wp2_with fail
 exact hfin.o
end Go.Proofs.YtmiiejinahnpkaaGreatDoor
namespace Go.Proofs.YtmiiejinahnpkaaGreatDoor
section
open Go.RowKit Go.Shelf
theorem pisAny_any (x:Nat)(w:World)(R:EW)(hR:R (.returned (.bool true)) w):Calls Tryz.prog 124 #[.int .i64 (x:Nat)] w R:=by
 have HR:=zl hR
 clear hR
 go_enter Tryz.func124,Tryz.ntmps124
 go_wp2_with fail
 exact HR.o
theorem pisNo_any (x:Nat)(w:World)(R:EW)(hR:R (.returned (.bool false)) w):Calls Tryz.prog 135 #[.int .i64 (x:Nat)] w R:=by
 have HR:=zl hR
 clear hR
 go_enter Tryz.func135,Tryz.ntmps135
 go_wp2_with fail
 exact HR.o
theorem zhn (x:Nat)(w:World)(R:EW)(hR:R (.returned (.bool (x !=3))) w):Calls Tryz.prog 131 #[.int .i64 (x:Nat)] w R:=by
 by_cases h:x=3
 .have HR:Hid (R (.returned (.bool false)) w):=zam hR (by simp[h])
  clear hR
  have f:((x:Int)==3)=true:=by simp[h]
  subst h
  go_enter Tryz.func131,Tryz.ntmps131
  go_wp2_with fail
  exact HR.o
 .have HR:Hid (R (.returned (.bool true)) w):=zam hR (by simp[h])
  clear hR
  have f:((x:Int)==3)=false:=by simp;omega
  go_enter Tryz.func131,Tryz.ntmps131
  go_wp2_with fail
  exact zam HR.o (by simp;omega)
theorem pisLoc_any (x:Nat)(w:World)(R:EW)(hR:R (.returned (.bool (x==4))) w):Calls Tryz.prog 125 #[.int .i64 (x:Nat)] w R:=by
 by_cases h:x=4
 .have HR:Hid (R (.returned (.bool true)) w):=zam hR (by simp[h])
  clear hR
  subst h
  go_enter Tryz.func125,Tryz.ntmps125
  go_wp2_with fail
  exact HR.o
 .have HR:Hid (R (.returned (.bool false)) w):=zam hR (by simp[h])
  clear hR
  have f:((x:Int)==4)=false:=by simp;omega
  go_enter Tryz.func125,Tryz.ntmps125
  go_wp2_with fail
  exact HR.o
end
section
open Go.RowKit Go.Shelf
def hasP (t:Nat):Bool:=t==1||t==4
theorem zed (x:Nat)(w:World)(R:EW)(hR:R (.returned (.bool (hasP x))) w):Calls Tryz.prog 171 #[.int .i64 (x:Nat)] w R:=by
 unfold hasP at hR
 by_cases h:x=1
 .have HR:Hid (R (.returned (.bool true)) w):=zam hR (by simp[h])
  clear hR
  subst h
  go_enter Tryz.func171,Tryz.ntmps171
  go_wp2_with fail
  exact HR.o
 .have f1:((x:Int)==1)=false:=by simp;omega
  by_cases h4:x=4
  .have HR:Hid (R (.returned (.bool true)) w):=zam hR (by simp[h4])
   clear hR
   subst h4
   go_enter Tryz.func171,Tryz.ntmps171
   go_wp2_with fail
   exact HR.o
  .have HR:Hid (R (.returned (.bool false)) w):=zam hR (by simp[h,h4])
   clear hR
   have f4:((x:Int)==4)=false:=by simp;omega
   go_enter Tryz.func171,Tryz.ntmps171
   go_wp2_with fail
   exact HR.o
theorem pisFrom_any (m x:Nat)(w:World)(R:EW)(hR:R (.returned (.bool (decide (1<=x)&&decide (x<=m)))) w):Calls Tryz.prog 99 #[.int .i64 (m:Nat),.int .i64 (x:Nat)] w R:=by
 by_cases h1:1<=x
 .have f1:(1:Int)<=(x:Int):=by omega
  by_cases h2:x<=m
  .have HR:Hid (R (.returned (.bool true)) w):=zam hR (by simp[h1,h2])
   clear hR
   have f2:(x:Int)<=(m:Int):=by omega
   go_enter Tryz.func99,Tryz.ntmps99
   go_wp2_with fail
   exact HR.o
  .have HR:Hid (R (.returned (.bool false)) w):=zam hR (by simp[h2])
   clear hR
   have f2: ¬((x:Int)<=(m:Int)):=by omega
   go_enter Tryz.func99,Tryz.ntmps99
   go_wp2_with fail
   exact HR.o
 .have HR:Hid (R (.returned (.bool false)) w):=zam hR (by simp;omega)
  clear hR
  have f1: ¬((1:Int)<=(x:Int)):=by omega
  go_enter Tryz.func99,Tryz.ntmps99
  go_wp2_with fail
  exact HR.o
theorem pisPriceOf_any (t p:Nat)(w:World)(R:EW)(hR:R (.returned (.bool (if hasP t then decide (1<=p)&&decide (p<=1000000) else p==0))) w):Calls Tryz.prog 159 #[.int .i64 (t:Nat),.int .i64 (p:Nat)] w R:=by
 cases ht:hasP t with
 |true=>
  rw[ht,if_pos rfl] at hR
  have HR:Hid (R (.returned (.bool (decide (1<=p)&&decide (p<=1000000)))) w):=hR
  clear hR
  go_enter Tryz.func159,Tryz.ntmps159
  go_wp2_with fail
  refine zed t _ _ ?_
  rw[ht]
  go_wp2_with fail
  refine pisFrom_any 1000000 p _ _ ?_
  generalize (decide (1<=p)&&decide (p<=1000000))=bb at *
  go_wp2_with fail
  exact HR.o
 |false=>
  rw[ht,if_neg (by simp)] at hR
  by_cases h0:p=0
  .have HR:Hid (R (.returned (.bool true)) w):=zam hR (by simp[h0])
   clear hR
   subst h0
   go_enter Tryz.func159,Tryz.ntmps159
   go_wp2_with fail
   refine zed t _ _ ?_
   rw[ht]
   go_wp2_with fail
   exact HR.o
  .have HR:Hid (R (.returned (.bool false)) w):=zam hR (by simp[h0])
   clear hR
   have f0:((p:Int)==0)=false:=by simp;omega
   go_enter Tryz.func159,Tryz.ntmps159
   go_wp2_with fail
   refine zed t _ _ ?_
   rw[ht]
   go_wp2_with fail
   exact HR.o
theorem pseqBehind_any (s:Nat)(hs:s<=4294967295)(w:World)(R:EW)(hR:R (.returned (.int .i64 ((s+1)%4294967296:Nat))) w):Calls Tryz.prog 92 #[.int .i64 (s:Nat)] w R:=by
 have HR:=zl hR
 clear hR
 go_enter Tryz.func92,Tryz.ntmps92
 go_wp2_with fail
 refine zci HR.o ?_
 show Value.int IntKind.i64 (((s+1)%4294967296:Nat):Int)=Value.int IntKind.i64 (((s:Int)+1)%4294967296)
 congr 1
end
section
open Go.RowKit Go.Shelf
theorem zk8 {W:World}{B:Nat}{t:TypeId}{x0 x1 x2 x3 x4 x5 x6 x7 x8 x9:Value}(h:W.heap[B]?=some (.cells #[x0,x1,x2,x3,x4,x5,x6,x7,x8,x9] t (0,0))):(W.cell? ⟨B,0,none⟩=some x0/\W.cell? ⟨B,1,none⟩=some x1/\W.cell? ⟨B,2,none⟩=some x2/\W.cell? ⟨B,3,none⟩=some x3/\W.cell? ⟨B,4,none⟩=some x4/\W.cell? ⟨B,5,none⟩=some x5/\W.cell? ⟨B,6,none⟩=some x6/\W.cell? ⟨B,7,none⟩=some x7/\W.cell? ⟨B,8,none⟩=some x8/\W.cell? ⟨B,9,none⟩=some x9)/\ ∀i,W.frozen? ⟨B,i,none⟩=false:=
 ⟨⟨by rw[cell_of_row _ _ 0 _ _ (0,0) h];rfl,by rw[cell_of_row _ _ 1 _ _ (0,0) h];rfl,by rw[cell_of_row _ _ 2 _ _ (0,0) h];rfl,by rw[cell_of_row _ _ 3 _ _ (0,0) h];rfl,by rw[cell_of_row _ _ 4 _ _ (0,0) h];rfl,by rw[cell_of_row _ _ 5 _ _ (0,0) h];rfl,by rw[cell_of_row _ _ 6 _ _ (0,0) h];rfl,by rw[cell_of_row _ _ 7 _ _ (0,0) h];rfl,by rw[cell_of_row _ _ 8 _ _ (0,0) h];rfl,by rw[cell_of_row _ _ 9 _ _ (0,0) h];rfl⟩,fun i=>by simp[World.frozen?,h]⟩
theorem zhm (id r:Nat)(w:World)(R:EW)(hR: ∀w',Below w.heap.size w w'->R (.returned (evv (mkev 2 0 id r 0 0 0 0 0 0))) w'):Calls Tryz.prog 58 #[.int .i64 (id:Nat),.int .i64 (r:Nat)] w R:=by
 have HR:=zl hR
 clear hR
 go_enter Tryz.func58,Tryz.ntmps58
 go_wp2_with fail
 have hb:=zac w (.cells #[.int .i64 2,.int .i64 0,.int .i64 (id:Nat),.int .i64 (r:Nat),.int .i64 0,.int .i64 0,.int .i64 0,.int .i64 0,.int .i64 0,.int .i64 0] 42)
 obtain ⟨⟨u0,u1,u2,u3,u4,u5,u6,u7,u8,u9⟩,_⟩:=zk8 (World.alloc_heap_new w (.cells #[.int .i64 2,.int .i64 0,.int .i64 (id:Nat),.int .i64 (r:Nat),.int .i64 0,.int .i64 0,.int .i64 0,.int .i64 0,.int .i64 0,.int .i64 0] 42))
 generalize w.alloc (.cells #[.int .i64 2,.int .i64 0,.int .i64 (id:Nat),.int .i64 (r:Nat),.int .i64 0,.int .i64 0,.int .i64 0,.int .i64 0,.int .i64 0,.int .i64 0] 42)=W at *
 refine bodyPost_ret (v:=evv (mkev 2 0 id r 0 0 0 0 0 0)) (by simp[results,Tryz.results58,go_sem,evv,mkev,u0,u1,u2,u3,u4,u5,u6,u7,u8,u9]) rfl ?_
 exact HR.o W hb
theorem zho (k:Nat)(c:Nat×Nat×Int)(w:World)(R:EW)(hR: ∀w',Below w.heap.size w w'->R (.returned (evv (mkev k 0 0 0 0 0 c.2.1 c.1 c.2.2 0))) w'):Calls Tryz.prog 164 #[.int .i64 (k:Nat),zjk c] w R:=by
 have HR:=zl hR
 clear hR
 obtain ⟨c1,c2,c3⟩:=c
 unfold zjk
 go_enter Tryz.func164,Tryz.ntmps164
 go_wp2_with fail
 have hb:Below w.heap.size w ((w.alloc (.cells #[.int .i64 (c1:Nat),.int .i64 (c2:Nat),.int .i64 c3] 205)).alloc (.cells #[.int .i64 (k:Nat),.int .i64 0,.int .i64 0,.int .i64 0,.int .i64 0,.int .i64 0,.int .i64 (c2:Nat),.int .i64 (c1:Nat),.int .i64 c3,.int .i64 0] 42)):=((Below.refl _ w).alloc nr _).alloc (by simp) _
 have hn:=World.alloc_heap_new (w.alloc (.cells #[.int .i64 (c1:Nat),.int .i64 (c2:Nat),.int .i64 c3] 205)) (.cells #[.int .i64 (k:Nat),.int .i64 0,.int .i64 0,.int .i64 0,.int .i64 0,.int .i64 0,.int .i64 (c2:Nat),.int .i64 (c1:Nat),.int .i64 c3,.int .i64 0] 42)
 rw[World.size_alloc] at hn
 obtain ⟨⟨u0,u1,u2,u3,u4,u5,u6,u7,u8,u9⟩,_⟩:=zk8 hn
 clear hn
 generalize (w.alloc (.cells #[.int .i64 (c1:Nat),.int .i64 (c2:Nat),.int .i64 c3] 205)).alloc (.cells #[.int .i64 (k:Nat),.int .i64 0,.int .i64 0,.int .i64 0,.int .i64 0,.int .i64 0,.int .i64 (c2:Nat),.int .i64 (c1:Nat),.int .i64 c3,.int .i64 0] 42)=W at *
 refine bodyPost_ret (v:=evv (mkev k 0 0 0 0 0 c2 c1 c3 0)) (by simp[results,Tryz.results164,go_sem,evv,mkev,u0,u1,u2,u3,u4,u5,u6,u7,u8,u9]) rfl ?_
 exact HR.o W hb
end
section
open Go.RowKit Go.Shelf
def pmc (c:Cf) (m:Mk) (K:Nat):Array Value:= #[.int .i64 c.ref,.int .i64 c.opn,.int .i64 c.cls,.int .i64 c.fin,.int .i64 c.orders,.int .i64 c.total,.int .i64 m.phase,.int .i64 m.time,.int .i64 m.ref,.int .i64 m.seq,.pointer (some ⟨K,0,none⟩)]
structure PM (w:World) (P:Nat) (b:Bk) (c:Cf) (m:Mk) (ph:Nat):Prop where
 blk:w.heap[P]?=some (.cells (pmc c m b.K) 104 (0,0))
 book:BKs w b ph m.all
 own: ¬b.F P
variable {b:Bk} {c:Cf} {m:Mk} {P ph:Nat} {w:World}
theorem PM.cells (h:PM w P b c m ph)(i:Nat)(v:Value)(hv:(pmc c m b.K)[i]?=some v):w.cell? ⟨P,i,none⟩=some v:=by rw[cell_of_row w P i _ _ (0,0) h.blk];exact hv
theorem PM.free (h:PM w P b c m ph)(i:Nat):w.frozen? ⟨P,i,none⟩=false:=by simp[World.frozen?,h.blk]
theorem PM.ext {w':World}(h:PM w P b c m ph)(hb:Below w.heap.size w w'):PM w' P b c m ph:=
 ⟨(hb.block P (gsi.1 h.blk).1).trans h.blk,h.book.ext hb,h.own⟩
def lookv (m:Mk):Value:= .agg #[.int .i64 m.phase,.int .i64 m.time,.int .i64 m.ref,.int .i64 m.seq]
theorem pLook_any (P:Nat)(b:Bk)(c:Cf)(m:Mk)(ph:Nat)(w:World)(R:EW)(h:PM w P b c m ph)(hR: ∀w',Below w.heap.size w w'->R (.returned (lookv m)) w'):Calls Tryz.prog 27 #[.pointer (some ⟨P,0,none⟩)] w R:=by
 have HR:=zl hR
 have hb0:=zac w (.cells #[.int .i64 0,.int .i64 0,.int .i64 0,.int .i64 0] 67)
 have c6:=zaa hb0 (h.cells 6 (.int .i64 (m.phase:Nat)) rfl)
 have c7:=zaa hb0 (h.cells 7 (.int .i64 (m.time:Nat)) rfl)
 have c8:=zaa hb0 (h.cells 8 (.int .i64 (m.ref:Nat)) rfl)
 have c9:=zaa hb0 (h.cells 9 (.int .i64 (m.seq:Nat)) rfl)
 clear hR h hb0
 go_enter Tryz.func27,Tryz.ntmps27
 go_wp2_with fail
 have hb:=zac w (.cells #[.int .i64 (m.phase:Nat),.int .i64 (m.time:Nat),.int .i64 (m.ref:Nat),.int .i64 (m.seq:Nat)] 67)
 obtain ⟨u0,u1,u2,u3,_⟩:=zjc (World.alloc_heap_new w (.cells #[.int .i64 (m.phase:Nat),.int .i64 (m.time:Nat),.int .i64 (m.ref:Nat),.int .i64 (m.seq:Nat)] 67))
 clear c6 c7 c8 c9
 generalize w.alloc (.cells #[.int .i64 (m.phase:Nat),.int .i64 (m.time:Nat),.int .i64 (m.ref:Nat),.int .i64 (m.seq:Nat)] 67)=W at *
 refine bodyPost_ret (v:=lookv m) (by simp[results,Tryz.results27,go_sem,lookv,u0,u1,u2,u3]) rfl ?_
 exact HR.o W hb
end
section
open Go.RowKit Go.Shelf
structure Kp (b:Bk) (m:Mk) (ph:Nat):Prop where
 ok:zdm m.all
 qd: ∀s,isSd s->Qd m.all s (b.q s)
 sum: ∀s,isSd s->zba m.all s<=1000000000
 dep: ∀s p,dep ph m.all s p<=1000000000
 ref:m.ref<=4294967295
theorem pindicate_any (P:Nat)(b:Bk)(c:Cf)(m:Mk)(ph:Nat)(w:World)(R:EW)(h:PM w P b c m ph)(hk:Kp b m ph)
  (hR: ∀v w',w'.ownsRow w.heap.size 42 10 v 1 (evc (mkev 6 0 0 0 0 0 (zal ph m.ref m.all).2.1 (zal ph m.ref m.all).1 (zal ph m.ref m.all).2.2 0))->Below w.heap.size w w'->R (.returned v) w'):
  Calls Tryz.prog 127 #[.pointer (some ⟨P,0,none⟩)] w R:=by
 have HR:=zl hR
 have HP:Hid (BKs w.drew b ph m.all):=h.book.ext br.drew
 have HK:=zl hk
 have c10:w.drew.cell? ⟨P,10,none⟩=some (.pointer (some ⟨b.K,0,none⟩)):=h.cells 10 _ rfl
 have c8:w.drew.cell? ⟨P,8,none⟩=some (.int .i64 (m.ref:Nat)):=h.cells 8 _ rfl
 have hbd:Below w.heap.size w w.drew:=br.drew
 clear hR h hk
 go_enter Tryz.func127,Tryz.ntmps127
 go_wp2_with fail
 refine wp_region_still_tail 9 zco (by kernel_rfl) ?_
 simp only[List.take_succ_cons,List.take_zero,List.drop_succ_cons,List.drop_zero]
 change wpStill _ _ w.drew (fun a'=>wpList _ _ _ _ a' w.drew) _ _
 generalize hW:w.drew=W at *
 iterate 9 still_step
 refine wpStill_nil ?_
 clear c10 c8
 go_wp2_with fail
 refine zle b ph m.all m.ref _ _ HP.o HK.o.ok (HK.o.qd 1 (.inl rfl)) (HK.o.qd 2 (.inr rfl)) (HK.o.sum 1 (.inl rfl)) (HK.o.sum 2 (.inr rfl)) HK.o.dep HK.o.ref ?_
 intro W1 hb1
 generalize zal ph m.ref m.all=cc at *
 have Hb1:Hid (Below w.heap.size w W1):=zad hbd hb1
 clear hb1 HP HK
 unfold zjk
 go_wp2_with fail
 refine zho 6 cc _ _ ?_
 intro W2 hb2
 have Hb2:Hid (Below w.heap.size w W2):=zad Hb1.o hb2
 clear hb2 Hb1
 obtain ⟨e,he⟩: ∃e,mkev 6 0 0 0 0 0 cc.2.1 cc.1 cc.2.2 0=e:=⟨_,rfl⟩
 rw[show ((6:Nat):Int)=6 from rfl,he]
 rw[he] at HR
 have hfin:Hid (R (.returned (.slice (some ⟨W2.heap.size,0,none⟩) 1 1)) (W2.alloc (.cells #[.int .i64 (e 0),.int .i64 (e 1),.int .i64 (e 2),.int .i64 (e 3),.int .i64 (e 4),.int .i64 (e 5),.int .i64 (e 6),.int .i64 (e 7),.int .i64 (e 8),.int .i64 (e 9)] 42))):=by
  refine HR.o _ _ ⟨by simp[evc],.inr ⟨W2.heap.size,1,_,rfl,Hb2.o.size,World.alloc_heap_new W2 _,nr,by decide,rfl,?_⟩⟩ (Hb2.o.alloc Hb2.o.size _)
  rfl
 clear he HR
 unfold evv
 go_wp2_with fail
 exact hfin.o
end
section
structure Cut (l l':List Od):Prop where
 len:l'.length=l.length
 id: ∀j,(nth l' j).id=(nth l j).id
 side: ∀j,(nth l' j).side=(nth l j).side
 typ: ∀j,(nth l' j).typ=(nth l j).typ
 price: ∀j,(nth l' j).price=(nth l j).price
 rest: ∀j,(nth l' j).rest<=(nth l j).rest
theorem Cut.refl (l:List Od):Cut l l:=⟨rfl,fun _=>rfl,fun _=>rfl,fun _=>rfl,fun _=>rfl,fun _=>nr⟩
theorem Cut.trans {a b c:List Od}(h:Cut a b)(k:Cut b c):Cut a c:=
 ⟨k.len.trans h.len,fun j=>(k.id j).trans (h.id j),fun j=>(k.side j).trans (h.side j),fun j=>(k.typ j).trans (h.typ j),fun j=>(k.price j).trans (h.price j),fun j=>llt (k.rest j) (h.rest j)⟩
theorem Cut.setRest (l:List Od)(i r:Nat)(hi:i<l.length)(hr:r<=(nth l i).rest):Cut l (zaf l i r):=by
 refine⟨by rw[zaw],fun j=>(zcc l i r j).1,fun j=>(zcc l i r j).2.1,fun j=>(zcc l i r j).2.2.1,fun j=>(zcc l i r j).2.2.2,fun j=>?_⟩
 rw[zhr l i r j hi]
 split
 .rename_i e
  rw[e]
  exact hr
 .exact nr
variable {l l':List Od}
theorem Cut.ok (h:Cut l l')(k:zdm l):zdm l':=fun j hj=>(k j (by rw[←h.len];exact hj)).shape (h.side j) (h.typ j) (h.price j)
theorem Cut.one (h:Cut l l')(k:oneId l):oneId l':=fun i j hi hj e=>k i j (by rw[←h.len];exact hi) (by rw[←h.len];exact hj) (by rw[←h.id,←h.id];exact e)
theorem Cut.qd (h:Cut l l'){s:Nat}{q:List Nat}(k:Qd l s q):Qd l' s q:=by
 refine⟨k.srt.imp ?_,fun j hj=>?_,fun j hj hs hp=>?_⟩
 .intro a b hab
  rw[zlh (h.side a) (h.typ a) (h.price a) (h.typ b) (h.price b)]
  exact hab
 .rw[h.len,h.side]
  exact k.inn j hj
 .refine k.has j (by rw[←h.len];exact hj) (by rw[←h.side];exact hs) ?_
  have:=h.rest j
  omega
theorem upSum_le (f g:Nat->Nat)(n:Nat)(h: ∀i,f i<=g i):ze3 f n<=ze3 g n:=by
 induction n with
 |zero=>exact nr
 |succ n ih=>
  simp only[ze3]
  have:=h n
  omega
theorem sumIn_up (l:List Od)(s:Nat):zba l s=ze3 (fun i=>if (nth l i).side=s then (nth l i).rest else 0) l.length:=by
 unfold zba
 rw[zeo,←zei l (fun o=>if (o.side==s)=true then o.rest else 0)]
 refine zep _ _ _ fun i _=>?_
 by_cases e:(nth l i).side=s<;>simp[e]
theorem Cut.sum (h:Cut l l')(s:Nat):zba l' s<=zba l s:=by
 rw[sumIn_up,sumIn_up,h.len]
 refine upSum_le _ _ _ fun i=>?_
 rw[h.side]
 split
 .exact h.rest i
 .exact nr
theorem mem_nth {o:Od}(h:o∈l): ∃i,i<l.length/\nth l i=o:=by
 obtain ⟨i,hi,e⟩:=List.getElem_of_mem h
 exact⟨i,hi,by unfold nth;simp[List.getD_eq_getElem?_getD,hi,e]⟩
theorem zg1 {i:Nat}(h:i<l.length):nth l i∈l:=by unfold nth;simp[List.getD,h]
variable {m m':Mk}
theorem Gd.cut (h:Gd m)(hc:Cut m.all m'.all)(hs:m'.seq<=4294967295)(hr:m'.ref<=4294967295):Gd m':=by
 refine⟨by rw[hc.len];exact h.len,hs,hr,fun o ho=>?_,fun o ho=>?_,fun s=>llt (hc.sum s) (h.sum s)⟩
 .obtain ⟨i,hi,rfl⟩:=mem_nth ho
  rw[hc.price]
  exact h.price _ (zg1 (by rw[←hc.len];exact hi))
 .obtain ⟨i,hi,rfl⟩:=mem_nth ho
  rw[hc.side]
  exact h.side _ (zg1 (by rw[←hc.len];exact hi))
def zji:Nat->List (Nat->Int)->Nat
 |r,[]=>r
 |_,e::l=>zji (e 7).toNat l
theorem zi8 (r:Nat)(a b:List (Nat->Int)):zji r (a++b)=zji (zji r a) b:=by
 induction a generalizing r with
 |nil=>rfl
 |cons e a ih=>exact ih _
structure Trd (m m':Mk):Prop where
 cut:Cut m.all m'.all
 phase:m'.phase=m.phase
 time:m'.time=m.time
 seq:m.seq<=4294967295->m'.seq<=4294967295
 low:m.ref<=4294967295->m'.ref<=4294967295
 out: ∃E,outs m'=outs m++E/\m'.ref=zji m.ref E
theorem Trd.refl (m:Mk):Trd m m:=⟨Cut.refl _,rfl,rfl,fun h=>h,fun h=>h,[],by simp,rfl⟩
theorem Trd.trans {a b c:Mk}(h:Trd a b)(k:Trd b c):Trd a c:=by
 obtain ⟨E,e1,e2⟩:=h.out
 obtain ⟨E',e3,e4⟩:=k.out
 exact⟨h.cut.trans k.cut,k.phase.trans h.phase,k.time.trans h.time,fun x=>k.seq (h.seq x),fun x=>k.low (h.low x),E++E',by rw[e3,e1,List.append_assoc],by rw[e4,e2,zi8]⟩
theorem Trd.ref (h:Trd m m'){E:List (Nat->Int)}(hE:outs m'=outs m++E):m'.ref=zji m.ref E:=by
 obtain ⟨E',e1,e2⟩:=h.out
 rw[e1] at hE
 rw[e2,List.append_cancel_left hE]
theorem Trd.trade (m:Mk)(i k n p:Nat)(hi:i<m.all.length)(hk:k<m.all.length)(hp:p<=4294967295):Trd m (za3 m i k n p):=by
 refine⟨?_,rfl,rfl,fun _=>by simp only[za3,zax];omega,fun _=>hp,_,zh6 m i k n p,?_⟩
 .exact(Cut.setRest m.all i ((nth m.all i).rest-n) hi (Nat.sub_le _ _)).trans (Cut.setRest _ k ((nth (zaf m.all i ((nth m.all i).rest-n)) k).rest-n) (by rw[zaw];exact hk) (Nat.sub_le _ _))
 .show p=((p:Nat):Int).toNat
  simp
theorem Trd.meet (o:Od)(k f:Nat)(m:Mk)(hk:k<m.all.length)(hpr: ∀j,j<m.all.length->(nth m.all j).price<=4294967295):Trd m (zbd o k f m):=by
 induction f generalizing m with
 |zero=>exact Trd.refl m
 |succ f ih=>
  by_cases hr:(nth m.all k).rest=0
  .rw[zen o k (f+1) m hr]
   exact Trd.refl m
  .rcases za8 m.phase m.all (3-o.side) m.all.length with e|⟨j,e,hj,_,_⟩
   .rw[zfh o k (f+1) m e]
    exact Trd.refl m
   .cases ht:tk o (nth m.all j).price with
    |false=>
     rw[zeu o k (f+1) j m e ht]
     exact Trd.refl m
    |true=>
     rw[zem o k f j m hr e ht]
     have key: ∀M,Trd m M->Trd m (zbd o k f M):=fun M hM=>hM.trans (ih M (by rw[hM.cut.len];exact hk) (fun j hj=>by rw[hM.cut.price];exact hpr j (by rw[←hM.cut.len];exact hj)))
     split
     .exact key _ (Trd.trade m k j _ _ hk hj (hpr j hj))
     .exact key _ (Trd.trade m j k _ _ hj hk (hpr j hj))
theorem Trd.cross (p f v:Nat)(m:Mk)(hp:p<=4294967295)(h1:v<=dep m.phase m.all 1 p)(h2:v<=dep m.phase m.all 2 p):Trd m (zbg p f v m):=by
 induction f generalizing m v with
 |zero=>exact Trd.refl m
 |succ f ih=>
  by_cases hv:v=0
  .rw[hv,zey]
   exact Trd.refl m
  .rcases za8 m.phase m.all 1 m.all.length with e|⟨a,ea,ha,ba,sa⟩
   .have:=zfz m.phase m.all 1 p e
    omega
   .rcases za8 m.phase m.all 2 m.all.length with e|⟨b,eb,hb,bb,sb⟩
    .have:=zfz m.phase m.all 2 p e
     omega
    .rw[zex p f v a b m hv ea eb]
     have ht:=Trd.trade m a b (min v (min (nth m.all a).rest (nth m.all b).rest)) p ha hb hp
     refine ht.trans (ih _ _ ?_ ?_)
     .have:=zc8 m a b (min v (min (nth m.all a).rest (nth m.all b).rest)) p 1 p ha hb (by omega) (.inl sa.symm)
      rw[ht.phase]
      omega
     .have:=zc8 m a b (min v (min (nth m.all a).rest (nth m.all b).rest)) p 2 p ha hb (by omega) (.inr sb.symm)
      rw[ht.phase]
      omega
end
section
open Go.RowKit Go.Shelf
structure Pv (b:Bk) (m:Mk):Prop where
 gd:Gd m
 ok:zdm m.all
 one:oneId m.all
 qd: ∀s,isSd s->Qd m.all s (b.q s)
 lv: ∀s,isSd s-> ∀i∈b.q s,0<(nth m.all i).rest
 idl: ∀j,(nth m.all j).id<=4294967295
 ty: ∀j,j<m.all.length->1<=(nth m.all j).typ/\(nth m.all j).typ<=4
variable {b:Bk} {m m':Mk}
theorem Pv.kp (h:Pv b m)(ph:Nat):Kp b m ph:=⟨h.ok,h.qd,fun s _=>h.gd.sum s,fun s p=>llt (zk5 ph m.all s p) (h.gd.sum s),h.gd.ref⟩
theorem Pv.keep (h:Pv b m)(ha:m'.all=m.all)(hs:m'.seq<=4294967295)(hr:m'.ref<=4294967295):Pv b m':=
 ⟨h.gd.cut (by rw[ha];exact Cut.refl _) hs hr,by rw[ha];exact h.ok,by rw[ha];exact h.one,by rw[ha];exact h.qd,by rw[ha];exact h.lv,by rw[ha];exact h.idl,by rw[ha];exact h.ty⟩
theorem Pv.tell (h:Pv b m)(e:Nat->Int):Pv b (zax m e):=h.keep rfl (h.gd.tell e).seq h.gd.ref
variable {v':Nat->Value}
theorem Pv.drop (h:Pv b m)(hc:Cut m.all m'.all)(hs:m'.seq<=4294967295)(hr:m'.ref<=4294967295)(p:Nat->Bool)(hp: ∀s,isSd s-> ∀i∈b.q s,p i=decide ((nth m'.all i).rest=0)):Pv (b.dropped v' p) m':=by
 have hf: ∀s,isSd s->(b.dropped v' p).q s=(b.q s).filter fun i=>decide ((nth m'.all i).rest≠0):=by
  intro s hs
  refine List.filter_congr fun i hi=>?_
  rw[hp s hs i hi]
  by_cases e:(nth m'.all i).rest=0<;>simp[e]
 refine⟨h.gd.cut hc hs hr,hc.ok h.ok,hc.one h.one,fun s hs=>?_,fun s hs=>?_,fun j=>by rw[hc.id];exact h.idl j,fun j hj=>by rw[hc.typ];exact h.ty j (by rw[←hc.len];exact hj)⟩
 .rw[hf s hs]
  exact(hc.qd (h.qd s hs)).drop
 .rw[hf s hs]
  exact drop_live m'.all (b.q s)
def Own (P:Nat) (b:Bk) (g:Nat):Prop:=g=P\/b.F g
structure Mv (P:Nat) (w:World) (b:Bk) (w':World) (b':Bk):Prop where
 tch:Tch (Own P b) w w'
 bf: ∀g,b'.F g->b.F g\/w.heap.size<=g
variable {B P ph s0:Nat} {w w':World}
theorem Mv.of (h:Below w.heap.size w w'):Mv P w b w' b:=⟨Tch.of h,fun _ h=> .inl h⟩
theorem Mv.trans {w1 w2:World}{b1 b2:Bk}(h:Mv P w b w1 b1)(k:Mv P w1 b1 w2 b2):Mv P w b w2 b2:=by
 refine⟨⟨k.tch.os.trans h.tch.os,k.tch.tape.trans h.tch.tape,k.tch.output.trans h.tch.output,llt h.tch.size k.tch.size,fun g hg hn=>?_⟩,fun g hg=>?_⟩
 .refine(k.tch.blk g (lll hg h.tch.size) fun e=>hn ?_).trans (h.tch.blk g hg hn)
  rcases e with e|e
  .exact .inl e
  .rcases h.bf g e with e|e
   .exact .inr e
   .omega
 .rcases k.bf g hg with e|e
  .exact h.bf g e
  .exact .inr (llt h.tch.size e)
theorem zbo {p:Nat->Bool}(h: ∀s,isSd s->(v' s).ownBlock=(b.v s).ownBlock){g:Nat}(hg:(b.dropped v' p).F g):b.F g:=by
 rcases hg with e|e|⟨s,hs,e|⟨i,hi,e⟩⟩
 .exact .inl e
 .exact .inr (.inl e)
 .exact .inr (.inr ⟨s,hs,.inl ((h s hs).symm.trans e)⟩)
 .exact .inr (.inr ⟨s,hs,.inr ⟨i,(List.mem_filter.1 hi).1,e⟩⟩)
variable {l:List Od}
theorem BKs.wait {ph':Nat}(h:BKs w b ph l)(hp: ∀o,wt ph' o=wt ph o):BKs w b ph' l:=
 ⟨h.blk,h.row,fun s hs i hi=>by rw[hp];exact h.ord s hs i hi,h.sep,h.ids,h.cnt⟩
theorem BKs.out {l':List Od}(h:BKs w b ph l)(hl:l'.length=l.length)(hi:zb7 l'=zb7 l)(hn: ∀s,isSd s-> ∀i∈b.q s,nth l' i=nth l i):BKs w b ph l':=
 ⟨h.blk,h.row,fun s hs i hq=>by rw[hn s hs i hq];exact h.ord s hs i hq,h.sep,by rw[hl,hi];exact h.ids,h.cnt⟩
structure PS (w:World) (P:Nat) (b:Bk) (c:Cf) (m:Mk) (s0:Nat):Prop where
 pm:PM w P b c {m with seq:=s0} m.phase
 pv:Pv b m
 ph:m.phase<=3
variable {c:Cf}
theorem PS.ext (h:PS w P b c m s0)(hb:Below w.heap.size w w'):PS w' P b c m s0:=⟨h.pm.ext hb,h.pv,h.ph⟩
theorem PS.keep (h:PS w P b c m s0)(hk: ∀g,Own P b g->w'.heap[g]?=w.heap[g]?):PS w' P b c m s0:=
 ⟨⟨(hk P (.inl rfl)).trans h.pm.blk,h.pm.book.keep fun g hg=>hk g (.inr hg),h.pm.own⟩,h.pv,h.ph⟩
theorem PS.ltP (h:PS w P b c m s0):P<w.heap.size:=(gsi.1 h.pm.blk).1
theorem PS.lt (h:PS w P b c m s0){g:Nat}(hg:Own P b g):g<w.heap.size:=by
 rcases hg with rfl|hg
 .exact h.ltP
 .exact h.pm.book.lt hg
theorem PS.tell (h:PS w P b c m s0)(e:Nat->Int):PS w P b c (zax m e) s0:=⟨⟨h.pm.blk,h.pm.book,h.pm.own⟩,h.pv.tell e,h.ph⟩
def Evs (w:World) (B:Nat) (v:Value) (E:List (Nat->Int)):Prop:=w.ownsRow B 42 10 v E.length (evcs E)
theorem Evs.nil (w:World)(B:Nat):Evs w B (.slice none 0 0) []:=World.ownsRow_nil _ _ _ _
variable {E:List (Nat->Int)} {v:Value}
theorem Evs.low {B':Nat}(h:Evs w B v E)(hb:B'<=B):Evs w B' v E:=zid h hb
theorem Evs.keep (h:Evs w B v E)(hk: ∀g,B<=g->g<w.heap.size->w'.heap[g]?=w.heap[g]?):Evs w' B v E:=
 zb6 h fun g hg=>hk g (World.ownsRow.lt h g hg).1 (World.ownsRow.lt h g hg).2
theorem Evs.ext (h:Evs w B v E)(hb:Below w.heap.size w w'):Evs w' B v E:=h.keep fun g _ hg=>hb.block g hg
end
end Go.Proofs.YtmiiejinahnpkaaGreatDoor
