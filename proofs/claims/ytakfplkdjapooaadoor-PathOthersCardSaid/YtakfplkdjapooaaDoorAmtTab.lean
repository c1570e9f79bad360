/- What the rows of package amount share: the table of powers of ten out of the row's list, and a world for the witness. -/
import Derived.Test.YtakfplkdjapooaaDoorShut
import Derived.Test.YtakfplkdjapooaaDoorAmtStr
import Derived.LaidSub
namespace Go.Proofs.YtakfplkdjapooaaDoor.Sp
open Go Go.ChangeShapes Go.WideShapes Go.ChangeAt Go.RowKit

theorem gTensType : (Tryd.prog.globals[1]?).map (·.type) = some 93 := by kernel_rfl
theorem cellsOf20 : Tryd.prog.cellsOf 93 = 20 := by kernel_rfl
theorem cellsOfU64 : Tryd.prog.cellsOf 22 = 1 := by kernel_rfl
theorem tens_data : Rows.laid_internal_strconv_uint64pow10 (H := Unit) = Lib.tabData .u64 Lib.pow10Tab := by kernel_rfl
theorem tens_of {W : World} (h : laidMetH Tryd.prog [("math/bits.deBruijn32tab", Rows.laid_math_bits_deBruijn32tab), ("math/bits.deBruijn64tab", Rows.laid_math_bits_deBruijn64tab), ("internal/strconv.uint64pow10", Rows.laid_internal_strconv_uint64pow10)] W) : Tens W := by
  have h1 := h.filter (fun x => x.1 == "internal/strconv.uint64pow10")
  have h2 : laidMet Tryd.prog (("internal/strconv.uint64pow10", Lib.tabData .u64 Lib.pow10Tab) :: []) W := by
    rw [← tens_data]
    exact h1
  exact Lib.tabIs_of_head gTens gTensType Tryd.underlying93 Tryd.underlying22 cellsOfU64 cellsOf20 h2

/-- The cells that a list of integers lies in. -/
def cellsLaid : DataW Unit → Array Value
  | .agg l => (l.filterMap fun | .lit (.int k z) => some (Value.int k z) | _ => none).toArray
  | _ => #[]
def laidIn (d : DataW Unit) : Obj → Obj
  | .cells _ t frozen => .cells (cellsLaid d) t frozen
  | o => o
/-- A world for the witness: the settled one, the tables holding what their initialisers lay. -/
noncomputable def laidWorld (os : Os) : World :=
  { World.holding Tryd.prog os ⟨#[], #[], []⟩ with heap := (((World.holding Tryd.prog os ⟨#[], #[], []⟩).heap.modify 2 (laidIn Rows.laid_math_bits_deBruijn32tab)).modify 3 (laidIn Rows.laid_math_bits_deBruijn64tab)).modify 1 (laidIn Rows.laid_internal_strconv_uint64pow10) }
end Go.Proofs.YtakfplkdjapooaaDoor.Sp
