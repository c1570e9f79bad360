/- The walk of AmountOrder. -/
import Derived.Test.YtaebhecnekdcfaaDoorAmtAwake
namespace Go.Proofs.YtaebhecnekdcfaaDoor.Sp
open Go Go.RowKit

set_option maxRecDepth 100000 in
set_option maxHeartbeats 2000000 in
theorem order_law (a b : Nat) (ha : a < 18446744073709551616) (hb : b < 18446744073709551616) (w : World) (hT : Tens w) :
    Calls Tryd.prog 7 #[.int .u64 (a : Int), .int .u64 (b : Int)] w fun e w' => e = .returned (.bool true) ∧ Below w.heap.size w w' := by
  obtain ⟨X, eX⟩ : ∃ X : ByteArray, ⟨(dec a).toArray⟩ = X := ⟨_, rfl⟩
  obtain ⟨Y, eY⟩ : ∃ Y : ByteArray, ⟨(dec b).toArray⟩ = Y := ⟨_, rfl⟩
  have HX := Lib.hid eX
  have HY := Lib.hid eY
  have lX : X.data.toList = dec a := by rw [← eX]
  have lY : Y.data.toList = dec b := by rw [← eY]
  have hord := dec_order a b
  rw [← lX, ← lY, size_list, size_list, ← ByteArray.toList_eq, ← ByteArray.toList_eq] at hord
  have h20 : (X.size : Int) ≤ 20 := by
    rw [← size_list, lX]
    have := (dec_len a 20 (by omega)).2 (Nat.lt_trans ha (by decide))
    omega
  have h1 : (1 : Int) ≤ (X.size : Int) := by
    rw [← size_list, lX]
    have := dec_len_pos a
    omega
  have HO := Lib.hid hord
  have HT := Lib.hid hT
  clear hT eX eY lX lY hord
  go_enter Tryd.func7, Tryd.ntmps7
  go_wp2_with fail
  refine (awake_any w HT.out).mono ?_
  rintro e w1 ⟨rfl, h1⟩
  have T1 := Lib.hid (tens_below HT.out h1)
  have B1 := Lib.hid h1
  clear h1
  go_wp2_with fail
  refine (print_at a X HX.out ha w1 T1.out).mono ?_
  rintro e w2 ⟨rfl, h2⟩
  have T2 := Lib.hid (tens_below T1.out h2)
  have B2 := Lib.hid (B1.out.trans (h2.mono B1.out.size))
  clear h2
  go_wp2_with fail
  refine (print_at b Y HY.out hb w2 T2.out).mono ?_
  rintro e w3 ⟨rfl, h3⟩
  have B3 := Lib.hid (B2.out.trans (h3.mono B2.out.size))
  clear h3
  by_cases hl : X.size < Y.size
  · have hli : (X.size : Int) < (Y.size : Int) := by omega
    have hab : (a : Int) < (b : Int) := by have := HO.out.1 (.inl hl); omega
    clear hl
    go_wp2_with fail
    go_ret
    exact ⟨rfl, B3.out⟩
  · have hli : ¬ (X.size : Int) < (Y.size : Int) := by omega
    by_cases he : X.size = Y.size
    · have hei : (X.size : Int) = (Y.size : Int) := by omega
      have hy1 : (1 : Int) ≤ (Y.size : Int) := by omega
      have hy20 : (Y.size : Int) ≤ 20 := by omega
      by_cases hs : Op.bytesLess X.toList Y.toList = true
      · have hab : (a : Int) < (b : Int) := by have := HO.out.1 (.inr ⟨he, hs⟩); omega
        clear hl he
        go_wp2_with fail
        go_ret
        exact ⟨rfl, B3.out⟩
      · have hab : ¬ (a : Int) < (b : Int) := by
          intro h
          rcases HO.out.2 (by omega) with h | h
          · exact hl h
          · exact hs h.2
        have habn : decide (a < b) = false := by rw [decide_eq_false_iff_not]; omega
        rw [Bool.not_eq_true] at hs
        clear hl he
        go_wp2_with fail
        go_ret
        exact ⟨rfl, B3.out⟩
    · have hei : ¬ (X.size : Int) = (Y.size : Int) := by omega
      have hab : ¬ (a : Int) < (b : Int) := by
        intro h
        rcases HO.out.2 (by omega) with h | h
        · exact hl h
        · exact he h.1
      clear hl he
      go_wp2_with fail
      go_ret
      exact ⟨rfl, B3.out⟩
end Go.Proofs.YtaebhecnekdcfaaDoor.Sp
