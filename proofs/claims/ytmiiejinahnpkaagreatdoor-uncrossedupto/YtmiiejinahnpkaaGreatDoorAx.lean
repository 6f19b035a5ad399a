import Derived.Below
namespace Go.RowKit
theorem zl {p:Prop} (h:p):Hid p:=h
theorem zl2 {p q:Prop} (a:p) (b:q):Hid (p/\q):=⟨a,b⟩
theorem zl3 {p q r:Prop} (a:p) (b:q) (c:r):Hid (p/\q/\r):=⟨a,b,c⟩
theorem zl4 {p q r s:Prop} (a:p) (b:q) (c:r) (d:s):Hid (p/\q/\r/\s):=⟨a,b,c,d⟩
theorem zl5 {p q r s t:Prop} (a:p) (b:q) (c:r) (d:s) (e:t):Hid (p/\q/\r/\s/\t):=⟨a,b,c,d,e⟩
theorem Hid.o {p:Prop} (h:Hid p):p:=h
theorem xq {α:Type} (a:α): ∃y,y=a:=⟨_,rfl⟩
end Go.RowKit
namespace Go.Proofs.YtmiiejinahnpkaaGreatDoor
open Go.RowKit
abbrev EW:=Ending->World->Prop
theorem nr {n:Nat}:n<=n:=Nat.le_refl n
theorem br {B:Nat} {w:World}:Below B w w:=Below.refl B w
theorem gsi {α:Type} {i:Nat} {b:α} {xs:Array α}:xs[i]?=some b↔ ∃h:i<xs.size,xs[i]=b:=Array.getElem?_eq_some_iff
theorem gdd {α:Type} {l:List α} {i:Nat} {a:α}:l.getD i a=l[i]?.getD a:=List.getD_eq_getElem?_getD
theorem lll {a b c:Nat} (h:a<b) (k:b<=c):a<c:=Nat.lt_of_lt_of_le h k
theorem llt {a b c:Nat} (h:a<=b) (k:b<=c):a<=c:=Nat.le_trans h k
theorem bhs (w:World) (a:Addr) (u:Value) (k:Nat) (h:k≠a.block):(w.setCell a u).heap[k]?=w.heap[k]?:=Below.heap_setCell w a u k h
end Go.Proofs.YtmiiejinahnpkaaGreatDoor
