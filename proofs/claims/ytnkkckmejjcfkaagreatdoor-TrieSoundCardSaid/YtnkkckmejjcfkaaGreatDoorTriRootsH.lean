/- Of appends of rows of texts; keys told by small numbers. -/
import Derived.Test.YtnkkckmejjcfkaaGreatDoorGzZ
import Derived.Test.YtnkkckmejjcfkaaGreatDoorGzW
import Derived.Test.YtnkkckmejjcfkaaGreatDoorTriRdT
import Derived.Test.YtnkkckmejjcfkaaGreatDoorReadsW
namespace Go.Proofs.YtnkkckmejjcfkaaGreatDoor.Sp
open Go Go.RowKit
set_option maxRecDepth 100000

theorem ones_texts (l : List ByteArray) : ∀ u ∈ l.map Value.string, u.oneCell' = true := by
  intro u hu
  obtain ⟨x, _, rfl⟩ := List.mem_map.1 hu
  rfl
theorem below_da_ {w0 w w' : World} {o : Obj} (B : Below w0.heap.size w0 w) (h : Below (w.drew.alloc o).heap.size (w.drew.alloc o) w') : Below w0.heap.size w0 w' :=
  have B1 : Below w0.heap.size w0 (w.drew.alloc o) := (B.drew).alloc (show w0.heap.size ≤ w.drew.heap.size from B.size) o
  B1.trans (h.mono B1.size)
theorem below_a_ {w0 w w' : World} {o : Obj} (B : Below w0.heap.size w0 w) (h : Below (w.alloc o).heap.size (w.alloc o) w') : Below w0.heap.size w0 w' :=
  have B1 : Below w0.heap.size w0 (w.alloc o) := B.alloc B.size o
  B1.trans (h.mono B1.size)
theorem keyOf_nin (k : Nat) (h : k < 9) : keyOf (k : Int) = keyC k := by unfold keyOf; rw [pickN_small k 9 h]

end Go.Proofs.YtnkkckmejjcfkaaGreatDoor.Sp
