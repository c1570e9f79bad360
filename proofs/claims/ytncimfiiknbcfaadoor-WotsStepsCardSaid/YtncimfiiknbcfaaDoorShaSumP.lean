/- Package sha: Pad and Sum, their answers under names. -/
import Derived.Test.YtncimfiiknbcfaaDoorShaRound
namespace Go.Proofs.YtncimfiiknbcfaaDoor.Sp
open Go Go.RowKit

theorem padB (n : Nat) (h : n ≤ 9223372036854775807) (w : World) (P : ByteArray) (hP : P = ⟨(pad n).toArray⟩) :
    Calls Tryd.prog 52 #[.int .i64 (n : Int)] w fun e w' => e = .returned (.string P) ∧ Below w.heap.size w w' := by
  rw [hP]; exact pad_any n h w
theorem padB_size (n : Nat) (P : ByteArray) (hP : P = ⟨(pad n).toArray⟩) : P.size = 9 + zeros n := by
  rw [hP]; show (pad n).toArray.size = _; rw [List.size_toArray, pad_length]
theorem sumA (b : ByteArray) (hb : b.size ≤ 9223372036854775000) (w : World) (hT : Tab w) (R : ByteArray) (hR : R = ⟨(sum b.data.toList).toArray⟩) :
    Calls Tryd.prog 35 #[.string b] w fun e w' => e = .returned (.string R) ∧ Below w.heap.size w w' := by
  rw [hR]; exact sum_any b hb w hT

end Go.Proofs.YtncimfiiknbcfaaDoor.Sp
