import Derived.Test.YtmiiejinahnpkaaGreatDoorXLfLh
set_option maxRecDepth 8000
set_option maxHeartbeats 400000
namespace Go.Proofs.YtmiiejinahnpkaaGreatDoor
open Go.RowKit
section
variable {K:Nat->Int} {A:Nat->Option Addr} {N C:Nat->Nat} {X:Nat->Nat->Int} {A':Nat->Option Addr} {N' C':Nat->Nat} {E:Nat->Nat->Nat->Int} {b:Nat->Bool}
theorem Played_any (x:Nat->Int)(sa:Option Addr)(mm cs:Nat)(w:World)(R:EW)
  (hm:mm<=1048575)(hL:zcq w)(hS:zdt w sa mm K A N C X A' N' C' E b)(hR: ∀w',Below w.heap.size w w'->R (.returned (.bool true)) w'):
  Calls Tryz.prog 5 #[cfx x,.slice sa mm cs] w R:=by
 have HC:Hid (∀(R':EW) (w0:World) (G:Nat),Below w.heap.size w w0->w0.heap[G]?=some (.cells #[.int .i64 (x 0),.int .i64 (x 1),.int .i64 (x 2),.int .i64 (x 3),.int .i64 (x 4),.int .i64 (x 5)] 46 (0,0))->(∀w',R (.returned (.bool true)) w'->R' (.returned (.bool true)) w')->Calls Tryz.prog 17 #[.slice (some ⟨G,0,none⟩) 1 1,.slice sa mm cs,.int .i64 3] w0 R'):=by
  intro R' w0 G hb h0 hR'
  refine play_any (some ⟨G,0,none⟩) sa 1 1 mm cs (fun _=>x) 3 w0 R' (by omega) (by omega) hm (zcq.below hL hb nr) ?_ (hS.ext hb) (fun w' hb'=>hR' w' (hR w' (hb.trans (hb'.mono hb.size))))
  intro i hi
  obtain rfl:i=0:=by omega
  refine⟨_,_,rfl,fun j hj=>?_⟩
  rw[cell_of_row w0 G _ _ _ (0,0) h0]
  rcases (show j=0\/j=1\/j=2\/j=3\/j=4\/j=5 by omega) with rfl|rfl|rfl|rfl|rfl|rfl<;>rfl
 clear hL hS hR
 unfold cfx
 go_enter Tryz.func5,Tryz.ntmps5
 go_wp2_with fail
 have h1:=heap_alloc_new (w.alloc (.cells #[.int .i64 (x 0),.int .i64 (x 1),.int .i64 (x 2),.int .i64 (x 3),.int .i64 (x 4),.int .i64 (x 5)] 46)) (.cells #[.int .i64 (x 0),.int .i64 (x 1),.int .i64 (x 2),.int .i64 (x 3),.int .i64 (x 4),.int .i64 (x 5)] 46)
 rw[show (w.alloc (.cells #[.int .i64 (x 0),.int .i64 (x 1),.int .i64 (x 2),.int .i64 (x 3),.int .i64 (x 4),.int .i64 (x 5)] 46)).heap.size=w.heap.size+1 by simp] at h1
 have h2:Below w.heap.size w ((w.alloc (.cells #[.int .i64 (x 0),.int .i64 (x 1),.int .i64 (x 2),.int .i64 (x 3),.int .i64 (x 4),.int .i64 (x 5)] 46)).alloc (.cells #[.int .i64 (x 0),.int .i64 (x 1),.int .i64 (x 2),.int .i64 (x 3),.int .i64 (x 4),.int .i64 (x 5)] 46)):=(br.alloc nr _).alloc (by simp) _
 generalize (w.alloc (.cells #[.int .i64 (x 0),.int .i64 (x 1),.int .i64 (x 2),.int .i64 (x 3),.int .i64 (x 4),.int .i64 (x 5)] 46)).alloc (.cells #[.int .i64 (x 0),.int .i64 (x 1),.int .i64 (x 2),.int .i64 (x 3),.int .i64 (x 4),.int .i64 (x 5)] 46)=w0 at *
 refine HC.o _ w0 (w.heap.size+1) h2 h1 ?_
 intro w' hR
 have hfin:Hid (R (.returned (.bool true)) w'):=hR
 clear hR HC h1 h2
 go_wp2_with fail
 exact hfin.o
theorem All_any (x y:Nat->Int)(sa:Option Addr)(mm cs:Nat)(w:World)(R:EW)
  (hm:mm<=1048575)(hL:zcq w)(hS:zdt w sa mm K A N C X A' N' C' E b)(hR: ∀w',Below w.heap.size w w'->R (.returned (.bool true)) w'):
  Calls Tryz.prog 12 #[cfx x,cfx y,.slice sa mm cs] w R:=by
 have HC:Hid (∀(R':EW) (w0:World) (G:Nat),Below w.heap.size w w0->w0.heap[G]?=some (.cells #[.int .i64 (x 0),.int .i64 (x 1),.int .i64 (x 2),.int .i64 (x 3),.int .i64 (x 4),.int .i64 (x 5),.int .i64 (y 0),.int .i64 (y 1),.int .i64 (y 2),.int .i64 (y 3),.int .i64 (y 4),.int .i64 (y 5)] 46 (0,0))->(∀w',R (.returned (.bool true)) w'->R' (.returned (.bool true)) w')->Calls Tryz.prog 17 #[.slice (some ⟨G,0,none⟩) 2 2,.slice sa mm cs,.int .i64 5] w0 R'):=by
  intro R' w0 G hb h0 hR'
  refine play_any (some ⟨G,0,none⟩) sa 2 2 mm cs (fun i=>if i=0 then x else y) 5 w0 R' (by omega) (by omega) hm (zcq.below hL hb nr) ?_ (hS.ext hb) (fun w' hb'=>hR' w' (hR w' (hb.trans (hb'.mono hb.size))))
  intro i hi
  refine⟨_,_,rfl,fun j hj=>?_⟩
  rw[cell_of_row w0 G _ _ _ (0,0) h0]
  rcases (show i=0\/i=1 by omega) with rfl|rfl<;>rcases (show j=0\/j=1\/j=2\/j=3\/j=4\/j=5 by omega) with rfl|rfl|rfl|rfl|rfl|rfl<;>rfl
 clear hL hS hR
 unfold cfx
 go_enter Tryz.func12,Tryz.ntmps12
 go_wp2_with fail
 have h1:=heap_alloc_new ((w.alloc (.cells #[.int .i64 (x 0),.int .i64 (x 1),.int .i64 (x 2),.int .i64 (x 3),.int .i64 (x 4),.int .i64 (x 5)] 46)).alloc (.cells #[.int .i64 (y 0),.int .i64 (y 1),.int .i64 (y 2),.int .i64 (y 3),.int .i64 (y 4),.int .i64 (y 5)] 46)) (.cells #[.int .i64 (x 0),.int .i64 (x 1),.int .i64 (x 2),.int .i64 (x 3),.int .i64 (x 4),.int .i64 (x 5),.int .i64 (y 0),.int .i64 (y 1),.int .i64 (y 2),.int .i64 (y 3),.int .i64 (y 4),.int .i64 (y 5)] 46)
 rw[show ((w.alloc (.cells #[.int .i64 (x 0),.int .i64 (x 1),.int .i64 (x 2),.int .i64 (x 3),.int .i64 (x 4),.int .i64 (x 5)] 46)).alloc (.cells #[.int .i64 (y 0),.int .i64 (y 1),.int .i64 (y 2),.int .i64 (y 3),.int .i64 (y 4),.int .i64 (y 5)] 46)).heap.size=w.heap.size+1+1 by simp] at h1
 have h2:Below w.heap.size w (((w.alloc (.cells #[.int .i64 (x 0),.int .i64 (x 1),.int .i64 (x 2),.int .i64 (x 3),.int .i64 (x 4),.int .i64 (x 5)] 46)).alloc (.cells #[.int .i64 (y 0),.int .i64 (y 1),.int .i64 (y 2),.int .i64 (y 3),.int .i64 (y 4),.int .i64 (y 5)] 46)).alloc (.cells #[.int .i64 (x 0),.int .i64 (x 1),.int .i64 (x 2),.int .i64 (x 3),.int .i64 (x 4),.int .i64 (x 5),.int .i64 (y 0),.int .i64 (y 1),.int .i64 (y 2),.int .i64 (y 3),.int .i64 (y 4),.int .i64 (y 5)] 46)):=((br.alloc nr _).alloc (by simp) _).alloc (by simp;omega) _
 generalize ((w.alloc (.cells #[.int .i64 (x 0),.int .i64 (x 1),.int .i64 (x 2),.int .i64 (x 3),.int .i64 (x 4),.int .i64 (x 5)] 46)).alloc (.cells #[.int .i64 (y 0),.int .i64 (y 1),.int .i64 (y 2),.int .i64 (y 3),.int .i64 (y 4),.int .i64 (y 5)] 46)).alloc (.cells #[.int .i64 (x 0),.int .i64 (x 1),.int .i64 (x 2),.int .i64 (x 3),.int .i64 (x 4),.int .i64 (x 5),.int .i64 (y 0),.int .i64 (y 1),.int .i64 (y 2),.int .i64 (y 3),.int .i64 (y 4),.int .i64 (y 5)] 46)=w0 at *
 refine HC.o _ w0 (w.heap.size+1+1) h2 h1 ?_
 intro w' hR
 have hfin:Hid (R (.returned (.bool true)) w'):=hR
 clear hR HC h1 h2
 go_wp2_with fail
 exact hfin.o
end
