/- The walk of AmountBack. -/
import Derived.Test.YtaebhecnekdcfaaDoorAmtAwake
namespace Go.Proofs.YtaebhecnekdcfaaDoor.Sp
open Go Go.RowKit

theorem par_dec (n : Nat) (hn : n < 18446744073709551616) : parN (dec n) = n ∧ parE (dec n) = 0 := by
  rw [parN, parE, if_pos (dec_form n), if_pos (dec_form n), valN, valE, dval_dec, if_pos hn, if_pos hn]
  exact ⟨rfl, rfl⟩
theorem par_zero (l : List UInt8) (h : parE l ≠ 0) : parN l = 0 := by
  revert h
  unfold parE parN valE valN
  split
  · split <;> simp
  · simp
theorem par_ok (l : List UInt8) (h : parE l = 0) : dec (parN l) = l ∧ parN l < 18446744073709551616 := by
  revert h
  unfold parE parN valE valN
  split
  · rename_i hf
    split
    · rename_i h; intro _; exact ⟨dec_dval l hf, h⟩
    · simp
  · simp
theorem par_lt (l : List UInt8) : parN l < 18446744073709551616 := by
  unfold parN valN
  split
  · split
    · rename_i h; exact h
    · decide
  · decide

set_option maxRecDepth 100000 in
set_option maxHeartbeats 2000000 in
theorem back_law (a b : Nat) (s : ByteArray) (ha : a < 18446744073709551616) (hb : b < 18446744073709551616) (hs : s.size ≤ 9223372036854775807) (w : World) (hT : Tens w) :
    Calls Tryd.prog 4 #[.int .u64 (a : Int), .int .u64 (b : Int), .string s] w fun e w' => e = .returned (.bool true) ∧ Below w.heap.size w w' := by
  obtain ⟨X, eX⟩ : ∃ X : ByteArray, ⟨(dec a).toArray⟩ = X := ⟨_, rfl⟩
  obtain ⟨Y, eY⟩ : ∃ Y : ByteArray, ⟨(dec b).toArray⟩ = Y := ⟨_, rfl⟩
  have HX := Lib.hid eX
  have HY := Lib.hid eY
  have lX : X.data.toList = dec a := by rw [← eX]
  have lY : Y.data.toList = dec b := by rw [← eY]
  have hpar := par_dec a ha
  rw [← lX] at hpar
  have hXs : X.size ≤ 9223372036854775807 := by
    rw [← size_list, lX]
    have := (dec_len a 20 (by omega)).2 (Nat.lt_trans ha (by decide))
    omega
  have heq : (X.toList == Y.toList) = decide ((a : Int) = (b : Int)) := by
    rw [ByteArray.toList_eq, ByteArray.toList_eq, lX, lY, Bool.eq_iff_iff, beq_iff_eq, decide_eq_true_iff]
    constructor
    · intro h; have := dec_inj h; omega
    · intro h; obtain rfl : a = b := by omega
      rfl
  have hle : (a : Int) ≤ (b : Int) → X.size ≤ Y.size := by
    intro h
    rw [← size_list, ← size_list, lX, lY]
    exact dec_len_mono (by omega)
  have HT := Lib.hid hT
  have HEQ := Lib.hid heq
  have HLE := Lib.hid hle
  clear hT eX eY lX lY heq hle
  go_enter Tryd.func4, Tryd.ntmps4
  go_wp2_with fail
  refine (awake_any w HT.out).mono ?_
  rintro e w1 ⟨rfl, h1⟩
  have T1 := Lib.hid (tens_below HT.out h1)
  have B1 := Lib.hid h1
  clear h1
  go_wp2_with fail
  refine (print_at a X HX.out ha w1 T1.out).mono ?_
  rintro e w2 ⟨rfl, h2⟩
  have T2 := Lib.hid (tens_below T1.out h2)
  have B2 := Lib.hid (B1.out.trans (h2.mono B1.out.size))
  clear h2
  go_wp2_with fail
  refine (print_at b Y HY.out hb w2 T2.out).mono ?_
  rintro e w3 ⟨rfl, h3⟩
  have T3 := Lib.hid (tens_below T2.out h3)
  have B3 := Lib.hid (B2.out.trans (h3.mono B2.out.size))
  clear h3
  go_wp2_with fail
  refine (parse_at X a 0 hpar hXs w3).mono ?_
  rintro e w' ⟨rfl, rfl⟩
  obtain ⟨N, eN⟩ : ∃ N, parN s.data.toList = N := ⟨_, rfl⟩
  obtain ⟨E, eE⟩ : ∃ E, parE s.data.toList = E := ⟨_, rfl⟩
  have hNl : N < 18446744073709551616 := by rw [← eN]; exact par_lt _
  have Hok := Lib.hid (show E = 0 → (⟨(dec N).toArray⟩ : ByteArray) = s from fun h => by
    rw [← eN]
    rw [(par_ok s.data.toList (eE.trans h)).1])
  have Hno := Lib.hid (show E ≠ 0 → N = 0 from fun h => by
    rw [← eN]; exact par_zero _ (by rw [eE]; exact h))
  have Hp := Lib.hid (And.intro eN eE)
  clear eN eE
  rcases Nat.lt_trichotomy a b with h | h | h
  · have heq : (X.toList == Y.toList) = false := by rw [HEQ.out, decide_eq_false_iff_not]; omega
    have hne : ¬ (a : Int) = (b : Int) := by omega
    have hbe : ((a : Int) == (b : Int)) = false := by rw [beq_eq_false_iff_ne]; exact hne
    have hle : (a : Int) ≤ (b : Int) := by omega
    have hxy : ¬ (Y.size : Int) < (X.size : Int) := by have := HLE.out hle; omega
    clear h
    go_wp2_with fail
    refine (parse_at s N E Hp.out hs w3).mono ?_
    rintro e w' ⟨rfl, rfl⟩
    by_cases hE : E = 0
    · have Hs := Lib.hid (Hok.out hE)
      subst hE
      go_wp2_with fail
      refine (print_at N s Hs.out hNl w3 T3.out).mono ?_
      rintro e w4 ⟨rfl, h4⟩
      have B4 := Lib.hid (B3.out.trans (h4.mono B3.out.size))
      clear h4
      go_wp2_with fail
      go_ret
      exact ⟨rfl, B4.out⟩
    · obtain rfl := Hno.out hE
      have hbE : (E != 0) = true := by simpa using hE
      go_wp2_with fail
      go_ret
      exact ⟨rfl, B3.out⟩
  · have heq : (X.toList == Y.toList) = true := by rw [HEQ.out, decide_eq_true_iff]; omega
    subst h
    have hle : (a : Int) ≤ (a : Int) := by omega
    have hxy : ¬ (Y.size : Int) < (X.size : Int) := by have := HLE.out hle; omega
    clear hle
    go_wp2_with fail
    refine (parse_at s N E Hp.out hs w3).mono ?_
    rintro e w' ⟨rfl, rfl⟩
    by_cases hE : E = 0
    · have Hs := Lib.hid (Hok.out hE)
      subst hE
      go_wp2_with fail
      refine (print_at N s Hs.out hNl w3 T3.out).mono ?_
      rintro e w4 ⟨rfl, h4⟩
      have B4 := Lib.hid (B3.out.trans (h4.mono B3.out.size))
      clear h4
      go_wp2_with fail
      go_ret
      exact ⟨rfl, B4.out⟩
    · obtain rfl := Hno.out hE
      have hbE : (E != 0) = true := by simpa using hE
      go_wp2_with fail
      go_ret
      exact ⟨rfl, B3.out⟩
  · have heq : (X.toList == Y.toList) = false := by rw [HEQ.out, decide_eq_false_iff_not]; omega
    have hne : ¬ (a : Int) = (b : Int) := by omega
    have hle : ¬ (a : Int) ≤ (b : Int) := by omega
    clear h
    go_wp2_with fail
    refine (parse_at s N E Hp.out hs w3).mono ?_
    rintro e w' ⟨rfl, rfl⟩
    by_cases hE : E = 0
    · have Hs := Lib.hid (Hok.out hE)
      subst hE
      go_wp2_with fail
      refine (print_at N s Hs.out hNl w3 T3.out).mono ?_
      rintro e w4 ⟨rfl, h4⟩
      have B4 := Lib.hid (B3.out.trans (h4.mono B3.out.size))
      clear h4
      go_wp2_with fail
      go_ret
      exact ⟨rfl, B4.out⟩
    · obtain rfl := Hno.out hE
      have hbE : (E != 0) = true := by simpa using hE
      go_wp2_with fail
      go_ret
      exact ⟨rfl, B3.out⟩
end Go.Proofs.YtaebhecnekdcfaaDoor.Sp
