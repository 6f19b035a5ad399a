import Derived.Test.YtmiiejinahnpkaaGreatDoorXLfLh
set_option maxRecDepth 8000
set_option maxHeartbeats 1000000
namespace Go.Proofs.YtmiiejinahnpkaaGreatDoor
open Go.RowKit
theorem Tryz.infoOp:(Tryz.prog.info? 34).map (fun i=>(i.zero,i.size,i.bytes))=some (some (.agg #[.int .i64 0,.slice none 0 0,.slice none 0 0,.bool false]),4,64):=by kernel_rfl
theorem flat4 {α:Type} (f:α->List Value) (hf: ∀x,(f x).length=4) (L:List α) (i j:Nat) (hi:i<L.length) (hj:j<4):(L.flatMap f)[i * 4+j]?=(f L[i])[j]?:=by
 induction L generalizing i with
 |nil=>simp at hi
 |cons x L ih=>
  cases i with
  |zero=>rw[List.flatMap_cons,List.getElem?_append_left (by rw[hf];omega)];simp
  |succ i=>
   rw[List.flatMap_cons,List.getElem?_append_right (by rw[hf];omega),hf,show (i+1) * 4+j-4=i * 4+j by omega,ih i (by simpa using hi)]
   simp
section
variable {K:Nat->Int} {A:Nat->Option Addr} {N C:Nat->Nat} {X:Nat->Nat->Int} {A':Nat->Option Addr} {N' C':Nat->Nat} {E:Nat->Nat->Nat->Int} {b:Nat->Bool}
def zie (K:Nat->Int) (A:Nat->Option Addr) (N C:Nat->Nat) (A':Nat->Option Addr) (N' C':Nat->Nat) (b:Nat->Bool) (j:Nat):List Value:=[.int .i64 (K j),.slice (A j) (N j) (C j),.slice (A' j) (N' j) (C' j),.bool (b j)]
theorem zdt.pick {w wr:World}{sa a:Option Addr}{m c H:Nat}(h:zdt w sa m K A N C X A' N' C' E b)(hb:Below w.heap.size w wr)(js:List Nat)(hj: ∀j∈js,j<m)
  (ho:wr.ownsRow H 34 4 (.slice a js.length c) js.length (js.flatMap (zie K A N C A' N' C' b))):
  zdt wr a js.length (fun i=>K (js.getD i 0)) (fun i=>A (js.getD i 0)) (fun i=>N (js.getD i 0)) (fun i=>C (js.getD i 0)) (fun i=>X (js.getD i 0)) (fun i=>A' (js.getD i 0)) (fun i=>N' (js.getD i 0)) (fun i=>C' (js.getD i 0)) (fun i=>E (js.getD i 0)) (fun i=>b (js.getD i 0)):=by
 have hlt: ∀i,i<js.length->js.getD i 0<m:=fun i hi=>by
  rw[List.getD_eq_getElem?_getD,List.getElem?_eq_getElem hi]
  exact hj _ (List.getElem_mem hi)
 refine⟨fun i hi=>?_,fun i hi=>?_,fun i hi=>?_⟩
 .have hx: ∀k,k<4->(js.flatMap (zie K A N C A' N' C' b))[i * 4+k]?=(zie K A N C A' N' C' b (js.getD i 0))[k]?:=fun k hk=>by
   rw[flat4 _ (fun _=>rfl) js i k hi hk,List.getD_eq_getElem?_getD,List.getElem?_eq_getElem hi]
   rfl
  obtain ⟨g0,k0,e0,-,-,-,d0,-⟩:=zan ho _ _ (hx 0 (by decide))
  obtain ⟨g1,k1,e1,-,-,-,d1,-⟩:=zan ho _ _ (hx 1 (by decide))
  obtain ⟨g2,k2,e2,-,-,-,d2,-⟩:=zan ho _ _ (hx 2 (by decide))
  obtain ⟨g3,k3,e3,-,-,-,d3,-⟩:=zan ho _ _ (hx 3 (by decide))
  injection e0 with e0
  injection e1 with e1
  injection e2 with e2
  injection e3 with e3
  subst e0
  obtain rfl:g0=g1:=by injection e1 with e1;injection e1
  obtain rfl:g0=g2:=by injection e2 with e2;injection e2
  obtain rfl:g0=g3:=by injection e3 with e3;injection e3
  exact⟨g0,0,rfl,by rw[Nat.zero_add];exact d0,by rw[Nat.zero_add];exact d1,by rw[Nat.zero_add];exact d2,by rw[Nat.zero_add];exact d3⟩
 .have:=h.bs _ (hlt i hi)
  exact⟨this.1,BsAt.ext this.2.1 hb,this.2.2⟩
 .have:=h.ev _ (hlt i hi)
  exact⟨this.1,ze1.ext this.2.1 hb,this.2.2⟩
theorem Calls_any (x:Nat->Int)(sa:Option Addr)(mm cs:Nat)(w:World)(R:EW)
  (hm:mm<=1048575)(hL:zcq w)(hS:zdt w sa mm K A N C X A' N' C' E b)(hR: ∀w',Below w.heap.size w w'->R (.returned (.bool true)) w'):
  Calls Tryz.prog 4 #[cfx x,.slice sa mm cs] w R:=by
 have HC:Hid (∀(R':EW) (w0:World) (G:Nat) (js:List Nat) (a:Option Addr) (c H:Nat),Below w.heap.size w w0->w0.heap[G]?=some (.cells #[.int .i64 (x 0),.int .i64 (x 1),.int .i64 (x 2),.int .i64 (x 3),.int .i64 (x 4),.int .i64 (x 5)] 46 (0,0))->(∀j∈js,j<mm)->js.length<=mm->w0.ownsRow H 34 4 (.slice a js.length c) js.length (js.flatMap (zie K A N C A' N' C' b))->(∀w',R (.returned (.bool true)) w'->R' (.returned (.bool true)) w')->Calls Tryz.prog 17 #[.slice (some ⟨G,0,none⟩) 1 1,.slice a js.length c,.int .i64 3] w0 R'):=by
  intro R' w0 G js a c H hb h0 hj hl ho hR'
  refine play_any (some ⟨G,0,none⟩) a 1 1 js.length c (fun _=>x) 3 w0 R' (by omega) (by omega) (by omega) (zcq.below hL hb nr) ?_ (hS.pick hb js hj ho) (fun w' hb'=>hR' w' (hR w' (hb.trans (hb'.mono hb.size))))
  intro i hi
  obtain rfl:i=0:=by omega
  refine⟨_,_,rfl,fun j hj=>?_⟩
  rw[cell_of_row w0 G _ _ _ (0,0) h0]
  rcases (show j=0\/j=1\/j=2\/j=3\/j=4\/j=5 by omega) with rfl|rfl|rfl|rfl|rfl|rfl<;>rfl
 have HS:=zl hS
 clear hL hS hR
 unfold cfx
 go_enter Tryz.func4,Tryz.ntmps4
 go_wp2_with fail
 obtain ⟨G,hG0⟩:=xq w.heap.size
 obtain ⟨w1,hw1⟩:=xq (w.alloc (.cells #[.int .i64 (x 0),.int .i64 (x 1),.int .i64 (x 2),.int .i64 (x 3),.int .i64 (x 4),.int .i64 (x 5)] 46))
 have HB1:Hid (Below w.heap.size w w1):=by rw[hw1];exact br.alloc nr _
 have HZ:Hid (w1.heap[G]?=some (.cells #[.int .i64 (x 0),.int .i64 (x 1),.int .i64 (x 2),.int .i64 (x 3),.int .i64 (x 4),.int .i64 (x 5)] 46 (0,0))):=by rw[hw1,hG0];exact heap_alloc_new w _
 have HG1:Hid (G<w1.heap.size/\w.heap.size<=w1.heap.size):=by rw[hw1,hG0];exact⟨by simp,by simp⟩
 rw[←hw1,←hG0]
 clear hw1 hG0
 go_loopw [5,6,7,8,9] (fun l i _ _ _ wr=> ∃(k:Nat) (js:List Nat),k<=mm/\i= .int .i64 k/\(∀j∈js,j<k)/\js.length<=k/\Grew w1.heap.size 34 4 w1 (.slice none 0 0) wr l js.length (js.flatMap (zie K A N C A' N' C' b))) (fun _ i _ _ _ _=>mm-(intOf i).toNat)
 case atStart=>exact⟨0,[],Nat.zero_le _,rfl,by simp,by simp,Grew.refl (World.ownsRow_nil _ _ _ _)⟩
 case round=>
  obtain ⟨k,js,hk,rfl,hjk,hjl,hG⟩:=hrel
  have hBr:Below w1.heap.size w1 wr:=hG.below nr (fun g hg=>by simp[Value.ownBlock] at hg)
  have HBr:=zl hBr
  have HBw:Hid (Below w.heap.size w wr):=HB1.o.trans (hBr.mono HG1.o.2)
  have HG:=zl hG
  have HJ:=zl2 hjk hjl
  have hzr:=hBr.size
  have HZr:=zl ((hBr.block G HG1.o.1).trans HZ.o)
  clear hjk hjl hG hBr
  by_cases hlt:k<mm
  .obtain ⟨g,o,rfl,d0,d1,d2,d3⟩:=HS.o.cell k hlt
   have c0:=(HBw.o.cell (zab d0)).trans d0
   have c1:=(HBw.o.cell (zab d1)).trans d1
   have c2:=(HBw.o.cell (zab d2)).trans d2
   have c3:=(HBw.o.cell (zab d3)).trans d3
   obtain ⟨hN,hX,hX2⟩:=HS.o.bs k hlt
   have HXb:=zl2 hX hX2
   have hk0:(0:Int)<=(k:Int):=by omega
   have hk1:(k:Int)<(mm:Int):=by omega
   clear d0 d1 d2 d3 hX hX2
   have hl:=HJ.o.2
   obtain ⟨ka,hka⟩:=xq (K k)
   obtain ⟨aa,haa⟩:=xq (A k)
   obtain ⟨na,hna⟩:=xq (N k)
   have hKK:=zl (hka.symm)
   have hAA:=zl (haa.symm)
   have hNN:=zl (hna.symm)
   rw[←hka] at c0
   rw[←haa,←hna] at c1
   have HXb':Hid (BsAt w aa na (X k)/\ ∀q,q<na->0<=X k q/\X k q<=255):=by rw[haa,hna];exact HXb.o
   clear hka haa hna HXb hN
   by_cases hK:ka=1
   .subst hK
    by_cases hN5:na=5
    .subst hN5
     obtain ⟨gb,ob,rfl,e0⟩:=HXb'.o.1 0 (by decide)
     have hbc: ∀q,q<5->wr.cell? ⟨gb,ob+q,none⟩=some (.int .u8 (X k q)):=fun q hq=>by
      obtain ⟨g',o',h',e'⟩:=HXb'.o.1 q hq
      injection h' with h'
      injection h' with h1 h2
      subst h1
      subst h2
      exact(HBw.o.cell (zab e')).trans e'
     have HBC:=zl hbc
     have f0:=hbc 0 (by decide)
     rw[Nat.add_zero] at f0
     clear hbc e0
     by_cases hX0:X k 0=4
     .rw[hX0] at f0
      go_wp2_with fail
      clear f0
      go_loop [8,9] (fun t i=> ∃(y:Nat) (T:Int),y<=4/\i= .int .i64 (y+1:Nat)/\t= .int .i64 T/\0<=T/\T<256^y) (fun _ i=>5-(intOf i).toNat)
      case atStart=>exact⟨0,0,by omega,rfl,rfl,by omega,by decide⟩
      case round=>
       obtain ⟨y,T,hy,rfl,rfl,hT0,hT1⟩:=hrel
       by_cases hy4:y<4
       .have f:=HBC.o (y+1) (by omega)
        have hx:=HXb'.o.2 (y+1) (by omega)
        generalize X k (y+1)=xx at f hx
        have hp:(256:Int)^(y+1)=256^y * 256:=Int.pow_succ ..
        have hle:(256:Int)^(y+1)<=4294967296:=by rcases (show y=0\/y=1\/y=2\/y=3 by omega) with rfl|rfl|rfl|rfl<;>decide
        have HT2:Hid (T * 256+xx<256^(y+1)):=by show _<_;rw[hp];omega
        have hT3:T * 256+xx<=4294967295:=by have:=HT2.o;omega
        have hT4:0<=T * 256+xx:=by omega
        have hT5:T<=4294967295:=by omega
        clear hp hle hT1
        go_wp2_with fail
        go_round
        case rel=>exact⟨y+1,T * 256+xx,by omega,by go_num,by go_num,hT4,HT2.o⟩
        case measure=>simp only[intOf];omega
       .obtain rfl:y=4:=by omega
        have q1:wr.cell? ⟨G,1,none⟩=some (.int .i64 (x 1)):=cell_of_row wr G 1 _ _ (0,0) HZr.o
        clear hT1
        by_cases hop:x 1<=T
        .go_wp2_with fail
         go_roundw
         case rel=>exact⟨k+1,js,by omega,by go_num,fun j hj=>Nat.lt_succ_of_lt (HJ.o.1 j hj),Nat.le_succ_of_le HJ.o.2,HG.o⟩
         case measure=>simp only[intOf];omega
        .go_wp2_with (at_builtin;go_must (refine za7 w1.heap.size 4 64 js.length _ _ _ HG.o.own hzr Tryz.infoOp rfl (by decide) rfl ?c2 ?c3 (by decide) _ _ 22 Tryz.underlying22 rfl rfl rfl rfl ?_))
         case c2=>exact⟨rfl,rfl,rfl,rfl⟩
         case c3=>omega
         intro v1 w2 hG2
         have HG2:Hid (Grew w1.heap.size 34 4 w1 (.slice none 0 0) w2 v1 (js++[k]).length ((js++[k]).flatMap (zie K A N C A' N' C' b))):=(HG.o.trans hG2).cast (by simp) (by simp[zie,hKK.out,hAA.out,hNN.out])
         clear hG2
         go_wp2_with fail
         go_roundw
         case rel=>exact⟨k+1,js++[k],by omega,by go_num,fun j hj=>by rcases List.mem_append.1 hj with h|h;exact Nat.lt_succ_of_lt (HJ.o.1 j h);rw[List.mem_singleton.1 h];exact Nat.lt_succ_self k,by have:=HJ.o.2;simp;omega,HG2.o⟩
         case measure=>simp only[intOf];omega
     .have hX0':(X k 0==4)=false:=by simpa using hX0
      obtain ⟨xz,hxz⟩:=xq (X k 0)
      rw[←hxz] at f0 hX0 hX0'
      clear hxz
      go_wp2_with (at_builtin;go_must (refine za7 w1.heap.size 4 64 js.length _ _ _ HG.o.own hzr Tryz.infoOp rfl (by decide) rfl ?c2 ?c3 (by decide) _ _ 22 Tryz.underlying22 rfl rfl rfl rfl ?_))
      case c2=>exact⟨rfl,rfl,rfl,rfl⟩
      case c3=>omega
      intro v1 w2 hG2
      have HG2:Hid (Grew w1.heap.size 34 4 w1 (.slice none 0 0) w2 v1 (js++[k]).length ((js++[k]).flatMap (zie K A N C A' N' C' b))):=(HG.o.trans hG2).cast (by simp) (by simp[zie,hKK.out,hAA.out,hNN.out])
      clear hG2
      go_wp2_with fail
      go_roundw
      case rel=>exact⟨k+1,js++[k],by omega,by go_num,fun j hj=>by rcases List.mem_append.1 hj with h|h;exact Nat.lt_succ_of_lt (HJ.o.1 j h);rw[List.mem_singleton.1 h];exact Nat.lt_succ_self k,by have:=HJ.o.2;simp;omega,HG2.o⟩
      case measure=>simp only[intOf];omega
    .have hN5':((na:Int)==5)=false:=by simp;omega
     go_wp2_with (at_builtin;go_must (refine za7 w1.heap.size 4 64 js.length _ _ _ HG.o.own hzr Tryz.infoOp rfl (by decide) rfl ?c2 ?c3 (by decide) _ _ 22 Tryz.underlying22 rfl rfl rfl rfl ?_))
     case c2=>exact⟨rfl,rfl,rfl,rfl⟩
     case c3=>omega
     intro v1 w2 hG2
     have HG2:Hid (Grew w1.heap.size 34 4 w1 (.slice none 0 0) w2 v1 (js++[k]).length ((js++[k]).flatMap (zie K A N C A' N' C' b))):=(HG.o.trans hG2).cast (by simp) (by simp[zie,hKK.out,hAA.out,hNN.out])
     clear hG2
     go_wp2_with fail
     go_roundw
     case rel=>exact⟨k+1,js++[k],by omega,by go_num,fun j hj=>by rcases List.mem_append.1 hj with h|h;exact Nat.lt_succ_of_lt (HJ.o.1 j h);rw[List.mem_singleton.1 h];exact Nat.lt_succ_self k,by have:=HJ.o.2;simp;omega,HG2.o⟩
     case measure=>simp only[intOf];omega
   .have hK':(ka==1)=false:=by simpa using hK
    go_wp2_with (at_builtin;go_must (refine za7 w1.heap.size 4 64 js.length _ _ _ HG.o.own hzr Tryz.infoOp rfl (by decide) rfl ?c2 ?c3 (by decide) _ _ 22 Tryz.underlying22 rfl rfl rfl rfl ?_))
    case c2=>exact⟨rfl,rfl,rfl,rfl⟩
    case c3=>omega
    intro v1 w2 hG2
    have HG2:Hid (Grew w1.heap.size 34 4 w1 (.slice none 0 0) w2 v1 (js++[k]).length ((js++[k]).flatMap (zie K A N C A' N' C' b))):=(HG.o.trans hG2).cast (by simp) (by simp[zie,hKK.out,hAA.out,hNN.out])
    clear hG2
    go_wp2_with fail
    go_roundw
    case rel=>exact⟨k+1,js++[k],by omega,by go_num,fun j hj=>by rcases List.mem_append.1 hj with h|h;exact Nat.lt_succ_of_lt (HJ.o.1 j h);rw[List.mem_singleton.1 h];exact Nat.lt_succ_self k,by have:=HJ.o.2;simp;omega,HG2.o⟩
    case measure=>simp only[intOf];omega
  .have hkm:k=mm:=by omega
   subst hkm
   obtain ⟨a5,c5,e5⟩:=zar HG.o.own
   subst e5
   have q0:wr.cell? ⟨G,0,none⟩=some (.int .i64 (x 0)):=cell_of_row wr G 0 _ _ (0,0) HZr.o
   have q1:wr.cell? ⟨G,1,none⟩=some (.int .i64 (x 1)):=cell_of_row wr G 1 _ _ (0,0) HZr.o
   have q2:wr.cell? ⟨G,2,none⟩=some (.int .i64 (x 2)):=cell_of_row wr G 2 _ _ (0,0) HZr.o
   have q3:wr.cell? ⟨G,3,none⟩=some (.int .i64 (x 3)):=cell_of_row wr G 3 _ _ (0,0) HZr.o
   have q4:wr.cell? ⟨G,4,none⟩=some (.int .i64 (x 4)):=cell_of_row wr G 4 _ _ (0,0) HZr.o
   have q5:wr.cell? ⟨G,5,none⟩=some (.int .i64 (x 5)):=cell_of_row wr G 5 _ _ (0,0) HZr.o
   go_wp2_with fail
   clear q0 q1 q2 q3 q4 q5
   refine HC.o _ _ wr.heap.size js a5 c5 w1.heap.size (HBw.o.trans (br.alloc nr _|>.mono HBw.o.size)) (heap_alloc_new wr _) HJ.o.1 HJ.o.2 (zbe HG.o.own (br.alloc nr _)) ?_
   intro w' hR
   have hfin:Hid (R (.returned (.bool true)) w'):=hR
   clear hR
   go_wp2_with fail
   exact hfin.o
end
