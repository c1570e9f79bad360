/- The walk of PathKinds. -/
import Derived.Test.YtakfplkdjapooaaDoorPthTellsW
namespace Go.Proofs.YtakfplkdjapooaaDoor.Sp
open Go Go.RowKit

theorem two_iff (k : Nat) : two k = true ↔ k = 2 ∨ k = 5 ∨ k = 6 ∨ k = 7 := by
  simp [two, or_assoc]

set_option maxRecDepth 100000 in
set_option maxHeartbeats 4000000 in
theorem kinds_law (K : Int) (a b : Nat) (hK : -9223372036854775808 ≤ K ∧ K ≤ 9223372036854775807) (ha : a < 18446744073709551616) (hb : b < 18446744073709551616) (w : World) (hT : Tens w) :
    Calls Tryd.prog 6 #[.int .i64 K, .int .u64 (a : Int), .int .u64 (b : Int)] w fun e w' => e = .returned (.bool true) ∧ Below w.heap.size w w' := by
  obtain ⟨X, E, hX⟩ := shown_ex K a b
  have HX := Lib.hid hX
  have HT := Lib.hid hT
  clear hT
  go_enter Tryd.func6, Tryd.ntmps6
  go_wp2_with fail
  refine (awake_any w HT.out).mono ?_
  rintro e w1 ⟨rfl, h1⟩
  have T1 := Lib.hid (tens_below HT.out h1)
  have B1 := Lib.hid h1
  clear h1
  go_wp2_with fail
  refine (pr_at K a b X E HX.out ha hb w1 T1.out).mono ?_
  rintro e w2 ⟨rfl, h2⟩
  have B2 := Lib.hid (B1.out.trans (h2.mono B1.out.size))
  clear h2
  rcases hX with ⟨k, rfl, hv, rfl, hl⟩ | ⟨hn, rfl, rfl⟩
  · have hne : X.toList.isEmpty = false := by
      rw [ByteArray.toList_eq, hl, Bool.eq_false_iff]; intro h
      exact ptext_ne k a b (List.isEmpty_iff.1 h)
    have h1i : (1 : Int) ≤ (k : Int) := by have := hv.1; omega
    have h8i : (k : Int) ≤ 8 := by have := hv.2.1; omega
    have ht := two_iff k
    rcases (show k = 2 ∨ k = 5 ∨ k = 6 ∨ k = 7 ∨ (k ≠ 2 ∧ k ≠ 5 ∧ k ≠ 6 ∧ k ≠ 7 ∧ b = 0) from by
      rcases hv.2.2.2.2 with h | h
      · rcases ht.1 h with h | h | h | h <;> omega
      · omega) with rfl | rfl | rfl | rfl | ⟨m2, m5, m6, m7, rfl⟩
    · clear ht hl hv hK h1i h8i
      go_wp2_with fail
      go_ret
      exact ⟨rfl, B2.out⟩
    · clear ht hl hv hK h1i h8i
      go_wp2_with fail
      go_ret
      exact ⟨rfl, B2.out⟩
    · clear ht hl hv hK h1i h8i
      go_wp2_with fail
      go_ret
      exact ⟨rfl, B2.out⟩
    · clear ht hl hv hK h1i h8i
      go_wp2_with fail
      go_ret
      exact ⟨rfl, B2.out⟩
    · have n2 : ¬ (k : Int) = 2 := by omega
      have n5 : ¬ (k : Int) = 5 := by omega
      have n6 : ¬ (k : Int) = 6 := by omega
      have n7 : ¬ (k : Int) = 7 := by omega
      clear ht hl hv hK m2 m5 m6 m7
      go_wp2_with fail
      go_ret
      exact ⟨rfl, B2.out⟩
  · rcases not_valid ha hb hn with h | ⟨k, rfl, h1, h8, h2, hb0⟩
    · have n2 : ¬ K = 2 := by omega
      have n5 : ¬ K = 5 := by omega
      have n6 : ¬ K = 6 := by omega
      have n7 : ¬ K = 7 := by omega
      by_cases hlo : 1 ≤ K
      · have hhi : ¬ K ≤ 8 := by omega
        clear h hn hK
        go_wp2_with fail
        go_ret
        exact ⟨rfl, B2.out⟩
      · clear h hn hK
        go_wp2_with fail
        go_ret
        exact ⟨rfl, B2.out⟩
    · have ht := two_iff k
      rw [h2] at ht
      have m : k ≠ 2 ∧ k ≠ 5 ∧ k ≠ 6 ∧ k ≠ 7 := by
        refine ⟨?_, ?_, ?_, ?_⟩ <;> intro e <;> exact absurd (ht.2 (by omega)) (by decide)
      have n2 : ((k : Int) == 2) = false := by rw [beq_eq_false_iff_ne]; omega
      have n5 : ((k : Int) == 5) = false := by rw [beq_eq_false_iff_ne]; omega
      have n6 : ((k : Int) == 6) = false := by rw [beq_eq_false_iff_ne]; omega
      have n7 : ((k : Int) == 7) = false := by rw [beq_eq_false_iff_ne]; omega
      have h1i : (1 : Int) ≤ (k : Int) := by omega
      have h8i : (k : Int) ≤ 8 := by omega
      have hb0i : ¬ (b : Int) = 0 := by omega
      have hbb : ((b : Int) == 0) = false := by rw [beq_eq_false_iff_ne]; exact hb0i
      clear m ht hn hK h1 h8 h2 hb0
      go_wp2_with fail
      go_ret
      exact ⟨rfl, B2.out⟩
end Go.Proofs.YtakfplkdjapooaaDoor.Sp
