/- Slices of texts as arguments, and what the bound on the bulk says of them. -/
import Derived.Test.YtchdnfhajcfdoaaDoorShaTable
import Derived.Test.YtchdnfhajcfdoaaDoorShaInputW
import Derived.SliceStrings
import Derived.Carry
namespace Go.Proofs.YtchdnfhajcfdoaaDoor.Sp
open Go Go.ChangeShapes Go.WideShapes Go.ChangeAt Go.RowKit

theorem laidOut : laidOutB Tryd.prog = true := by kernel_rfl
theorem cellsOfText : Tryd.prog.cellsOf 9 = 1 := by kernel_rfl

section
variable {H : Type}
theorem bulk_strs (l : List ByteArray) : (l.map fun s => 4 + s.size).sum ≤ 4 * Rows.uptoBulkAll (strs (H := H) l) ∧ l.length ≤ Rows.uptoBulkAll (strs (H := H) l) := by
  induction l with
  | nil => simp [strs, Rows.uptoBulkAll]
  | cons s l ih =>
    have hs : s.data.toList.length = s.size := by simp
    simp only [strs, List.map_cons, Rows.uptoBulkAll, Rows.uptoBulk, List.sum_cons, List.length_cons] at ih ⊢
    rw [hs]
    omega
theorem bulk_string (s : ByteArray) : s.size ≤ Rows.uptoBulk (DataW.lit (H := H) (.string s.data.toList)) := by
  have hs : s.data.toList.length = s.size := by simp
  simp only [Rows.uptoBulk]; rw [hs]; omega
theorem byte_of {n : Int} (h : (Lit.int .u8 n).wf = true) : ∃ b : UInt8, n = (b.toNat : Int) := by
  have := bounds_u8 h
  refine ⟨UInt8.ofNat n.toNat, ?_⟩
  rw [UInt8.toNat_ofNat']; omega

theorem open_parts {enc : TypeId × Value → H} {W : World} {base : Nat} {v : Value} {d : DataW H} {ps : List MemPlace} (hval : Value.okWide Tryd.prog W .any base 22 v)
    (h : DataW.Trod enc Tryd.prog W 0 (fun _ => true) true 22 v d ps) :
    ∃ a n c ss, v = .slice a n c ∧ Strs W a n ss ∧ len2 ss n ≤ 4 * Rows.uptoBulk d + 1 ∧ n ≤ Rows.uptoBulk d ∧ ∀ s ∈ ss, s.size ≤ 9223372036854775807 := by
  obtain ⟨a0, len, cap, rfl⟩ := okWide_slice Tryd.underlying22 hval
  obtain ⟨fuel, hf⟩ := h
  rcases open_strings Tryd.underlying22 Tryd.underlying9 cellsOfText hf with ⟨hcs, hx⟩ | ⟨a, len', cap', ss, hcs, _, hl, hm, hz, hx, hcell, hws⟩
  · simp [Value.cells] at hcs
    obtain ⟨rfl, rfl, rfl⟩ := hcs
    exact ⟨none, 0, 0, [], rfl, ⟨rfl, fun h => by omega⟩, by simp [len2], Nat.zero_le _, fun s hs => by cases hs⟩
  · simp [Value.cells] at hcs
    obtain ⟨rfl, rfl, rfl⟩ := hcs
    simp only [Prod.mk.injEq] at hx
    obtain ⟨rfl, _⟩ := hx
    simp only [if_true] at hz
    have hb := bulk_strs (H := H) (ss.take len)
    have hl2 : (ss.take len).length = len := by rw [List.length_take]; omega
    refine ⟨some a, len, cap, ss.take len, rfl, ⟨hl2, fun hp => ?_⟩, ?_, ?_, fun s hs => ?_⟩
    · obtain ⟨b, off, spot⟩ := a
      have hspot : spot = none := by simpa [Addr.add] using World.cell?_spot (hcell 0 (by omega))
      subst hspot
      refine ⟨b, off, rfl, fun j hj => ?_⟩
      rw [← Go.WideShapes.add_plain, hcell j (by omega), List.getD_eq_getElem?_getD, List.getD_eq_getElem?_getD, List.getElem?_take, if_pos hj]
    · unfold len2
      rw [List.take_of_length_le (by rw [hl2]; exact Nat.le_refl _)]
      simp only [Rows.uptoBulk]; omega
    · simp only [Rows.uptoBulk]; omega
    · have := hws s (List.mem_of_mem_take hs); unfold maxLen at this; omega
end
end Go.Proofs.YtchdnfhajcfdoaaDoor.Sp
