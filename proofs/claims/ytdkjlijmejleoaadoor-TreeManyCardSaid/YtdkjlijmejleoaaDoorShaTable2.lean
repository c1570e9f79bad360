/- What the rows share that list the document's own tables too: the tables out of the row's list, a world for the witness. -/
import Derived.Test.YtdkjlijmejleoaaDoorShaTable
import Derived.Test.YtdkjlijmejleoaaDoorShaRefB
import Derived.Stop.LaidErr
namespace Go.Proofs.YtdkjlijmejleoaaDoor.Sp
open Go Go.ChangeShapes Go.WideShapes Go.ChangeAt Go.RowKit

theorem gK : Tryd.prog.globalNamed "voussoir/voussoirref01.k" = some 2 := by kernel_rfl
theorem gKType : (Tryd.prog.globals[2]?).map (·.type) = some 67 := by kernel_rfl
theorem gFirst : Tryd.prog.globalNamed "voussoir/voussoirref01.first" = some 1 := by kernel_rfl
theorem gFirstType : (Tryd.prog.globals[1]?).map (·.type) = some 56 := by kernel_rfl
theorem cellsOf8 : Tryd.prog.cellsOf 56 = 8 := by kernel_rfl
def fInts : List Int := [1779033703, 3144134277, 1013904242, 2773480762, 1359893119, 2600822924, 528734635, 1541459225]
theorem fInts_get (i : Nat) (hi : i < 8) : fInts.getD i 0 = U (gW st0.ws i) := by
  have key : ∀ m : Fin 8, fInts.getD m.val 0 = U (gW st0.ws m.val) := by decide +kernel
  exact key ⟨i, hi⟩

/-- The document's own first state, as it lies in memory. -/
def FTab (w : World) : Prop := ∀ i, i < 8 → w.cell? ⟨1, i, none⟩ = some (.int .u32 (U (gW st0.ws i)))
theorem FTab.lt {w : World} (h : FTab w) : 1 < w.heap.size := block_lt_of_cell (h 0 (by omega))
theorem FTab.below {w w' : World} {B : Nat} (h : FTab w) (hb : Below B w w') (hB : 1 < B) : FTab w' := fun i hi => (hb.cell (p := ⟨1, i, none⟩) hB).trans (h i hi)

theorem ktab_of {W : World} {x : String × DataW Unit} {rest : List (String × DataW Unit)} (h : laidMet Tryd.prog (x :: ("voussoir/voussoirref01.k", Rows.laid_voussoir_voussoirref01_k) :: rest) W) : KTab W := by
  have ht : Lib.TabIs Tryd.prog W "voussoir/voussoirref01.k" .u32 kInts := Lib.tabIs_of_head gK gKType Tryd.underlying67 Tryd.underlying55 cellsOf1 cellsOf64 h.tail
  intro i hi
  rw [ht.cell gK i hi, kInts_get i hi]
theorem ftab_of {W : World} {x y : String × DataW Unit} {rest : List (String × DataW Unit)} (h : laidMet Tryd.prog (x :: y :: ("voussoir/voussoirref01.first", Rows.laid_voussoir_voussoirref01_first) :: rest) W) : FTab W := by
  have ht : Lib.TabIs Tryd.prog W "voussoir/voussoirref01.first" .u32 fInts := Lib.tabIs_of_head gFirst gFirstType Tryd.underlying56 Tryd.underlying55 cellsOf1 cellsOf8 h.tail.tail
  intro i hi
  rw [ht.cell gFirst i hi, fInts_get i hi]

/-- A world for the witness: the settled one, the three tables holding what their initialisers lay. -/
noncomputable def laidWorld3 (os : Os) : World :=
  { laidWorld os with heap := ((laidWorld os).heap.modify 2 fun
      | .cells _ t frozen => .cells (kInts.map fun z => Value.int .u32 z).toArray t frozen
      | o => o).modify 1 fun
      | .cells _ t frozen => .cells (fInts.map fun z => Value.int .u32 z).toArray t frozen
      | o => o }
end Go.Proofs.YtdkjlijmejleoaaDoor.Sp
