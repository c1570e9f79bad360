/- Package sha: the padding. -/
import Derived.Test.YtncimfiiknbcfaaDoorShaBlk
namespace Go.Proofs.YtncimfiiknbcfaaDoor.Sp
open Go Go.RowKit

theorem pad_neg (n : Int) (h : n < 0) (w : World) : Calls Tryd.prog 52 #[.int .i64 n] w fun e w' => e = .returned (.string ⟨#[]⟩) ∧ w = w' := by
  go_enter Tryd.func52, Tryd.ntmps52
  go_wp2
  go_ret
  exact ⟨rfl, rfl⟩

theorem zeros_le (n : Nat) : zeros n ≤ 63 := by unfold zeros; omega
theorem run_make_pad (z : Nat) (hz : z ≤ 63) (u : World) : (Instr.makeSlice 51 (.int .i64 (1 + (z : Int))) (.int .i64 (1 + (z : Int) + 8))).run Tryd.prog u =
    .ok (.slice (some ⟨u.heap.size, 0, none⟩) (1 + z) (1 + z + 8)) (u.alloc (.cells (madeCells #[.int .u8 0] (1 + z + 8)) 5)) := by
  obtain ⟨i0, hi, hz0, hz1, hz2⟩ := info_parts infoByte
  have h := run_make (P := Tryd.prog) u 51 5 i0 (.int .u8 0) Tryd.underlying51 hi hz0 .i64 .i64 (1 + (z : Int)) (1 + (z : Int) + 8) (by omega) (by omega) (by rw [hz2]; omega) (by omega)
  have e1 : (1 + (z : Int)).toNat = 1 + z := by omega
  have e2 : (1 + (z : Int) + 8).toNat = 1 + z + 8 := by omega
  rw [e1, e2] at h
  simpa [hz1, Value.cells] using h
theorem own_pad (w : World) (z : Nat) (hz : z ≤ 63) (base : Nat) (hb : base ≤ w.heap.size) :
    Own (w.alloc (.cells ((madeCells #[.int .u8 0] (1 + z + 8)).setIfInBounds 0 (.int .u8 128)) 5)) base (.slice (some ⟨w.heap.size, 0, none⟩) (1 + z) (1 + z + 8)) ([128] ++ List.replicate z 0) := by
  refine ⟨by simp [byteVs], .inr ⟨w.heap.size, 1 + z + 8, _, ?_, hb, heap_alloc_new w _, ?_, ?_, ?_, ?_⟩⟩
  · simp; omega
  · simp; omega
  · unfold maxLen; omega
  · simp [size_madeCells]
  · rw [Array.toList_setIfInBounds, madeCells_toList]
    have e : List.replicate (1 + z + 8) (0 : UInt8) = 0 :: (List.replicate z 0 ++ List.replicate 8 0) := by
      rw [List.replicate_append_replicate, show 1 + z + 8 = (z + 8) + 1 by omega, List.replicate_succ]
    rw [e]
    simp [byteVs, byteV, List.take_append]

theorem madeCells_head (c : Nat) (h : 0 < c) : (madeCells #[.int .u8 0] c)[0]? = some (.int .u8 0) := by
  have e := madeCells_toList c
  obtain ⟨d, rfl⟩ : ∃ d, c = d + 1 := ⟨c - 1, by omega⟩
  rw [← Array.getElem?_toList, e]
  simp [byteVs, List.replicate_succ, byteV]
theorem pad_high (n : Nat) (h : n ≤ 9223372036854775807) : IntKind.u64.wrap (8 * (n : Int)) / 4294967296 % 4294967296 = U (BitVec.ofNat 32 (8 * n / 4294967296)) := by
  unfold U; rw [BitVec.toNat_ofNat, IntKind.wrap_u64]; omega
theorem pad_low (n : Nat) (h : n ≤ 9223372036854775807) : IntKind.u64.wrap (8 * (n : Int)) % 4294967296 = U (BitVec.ofNat 32 (8 * n)) := by
  unfold U; rw [BitVec.toNat_ofNat, IntKind.wrap_u64]; omega

set_option maxHeartbeats 400000 in
theorem pad_any (n : Nat) (h : n ≤ 9223372036854775807) (w : World) : Calls Tryd.prog 52 #[.int .i64 (n : Int)] w fun e w' => e = .returned (.string ⟨(pad n).toArray⟩) ∧ Below w.heap.size w w' := by
  obtain ⟨z, ez⟩ : ∃ z, z = zeros n := ⟨_, rfl⟩
  have hz : (64 - ((n : Int) % 64 + 1 + 8) % 64) % 64 = (z : Int) := by rw [ez]; unfold zeros; omega
  have hz63 : z ≤ 63 := by rw [ez]; exact zeros_le n
  have EZ := Lib.hid ez
  clear ez
  have hmk := run_make_pad z hz63
  have hm0 := madeCells_head (1 + z + 8) (by omega)
  have hA := pad_high n h
  have hB := pad_low n h
  go_enter Tryd.func52, Tryd.ntmps52
  go_wp2_with fail
  have HO0 := own_pad w z hz63 w.heap.size (Nat.le_refl _)
  refine (appendWord_any (BitVec.ofNat 32 (8 * n / 4294967296)) _ _ w.heap.size _ HO0 (by simp; omega) (by simp)).mono ?_
  rintro e w1 ⟨v1, rfl, hown1, hg1⟩
  have HO1 := Lib.hid hown1
  have HB1 := Lib.hid (((Below.refl w.heap.size w).alloc (Nat.le_refl _) _).grown hg1 (by simp) (fun k' hk' => (HO0.lt k' hk').1))
  have hsz := HB1.out.size
  clear hown1 hg1 HO0
  go_wp2_with fail
  refine (appendWord_any (BitVec.ofNat 32 (8 * n)) _ _ w.heap.size _ HO1.out (by simp [bytes4_length]; omega) hsz).mono ?_
  rintro e w2 ⟨v2, rfl, hown2, hg2⟩
  have HO2 := Lib.hid hown2
  have HB2 := Lib.hid (HB1.out.grown hg2 hsz (fun k' hk' => (HO1.out.lt k' hk').1))
  have hconv := run_text_of_own hown2
  clear hown2 hg2
  go_wp2_with fail
  go_ret
  exact ⟨ret_string (by unfold pad; rw [← EZ.out]; simp), HB2.out⟩

end Go.Proofs.YtncimfiiknbcfaaDoor.Sp
