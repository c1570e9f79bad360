/- The statements of package path: what Print and Parse come to at a given path and text; their first calls. (PthProg holds the contracts of the program's own Print and Parse.) -/
import Derived.Test.YtakfplkdjapooaaDoorPthProg
import Derived.Test.YtakfplkdjapooaaDoorPthFit
namespace Go.Proofs.YtakfplkdjapooaaDoor.Sp
open Go Go.RowKit

theorem found_ex (s : List UInt8) : ∃ k a b E, Found s k a b E := by
  by_cases h : ∃ k a b, Valid k a b ∧ ptext k a b = s
  · obtain ⟨k, a, b, hv, e⟩ := h
    exact ⟨k, a, b, 0, .inl ⟨rfl, hv, e⟩⟩
  · exact ⟨0, 0, 0, 40, .inr ⟨rfl, rfl, rfl, rfl, fun k a b hv e => h ⟨k, a, b, hv, e⟩⟩⟩
def PairTo (V : Value) (E : Int) (w : World) (e : Ending) (w' : World) : Prop := e = .returned (.tuple #[V, .int .i64 E]) ∧ Below w.heap.size w w'
theorem pa_at (s : ByteArray) (k a b : Nat) (E : Int) (hF : Found s.data.toList k a b E) (hs : s.size ≤ 9223372036854775807) (w : World) (hT : Tens w) :
    Calls Tryd.prog 12 #[.string s] w (PairTo (pathV k a b) E w) := by
  refine (pa_any s hs w hT).mono ?_
  rintro e w' ⟨k', a', b', E', rfl, hF', hb⟩
  obtain ⟨rfl, rfl, rfl, rfl⟩ := found_one hF hF'
  exact ⟨rfl, hb⟩
theorem qpa_at (s : ByteArray) (k a b : Nat) (E : Int) (hF : Found s.data.toList k a b E) (hs : s.size ≤ 9223372036854775807) (w : World) :
    Calls Tryd.prog 13 #[.string s] w (PairTo (pathV k a b) E w) := by
  refine (qpa_any s hs w).mono ?_
  rintro e w' ⟨k', a', b', E', rfl, hF', hb⟩
  obtain ⟨rfl, rfl, rfl, rfl⟩ := found_one hF hF'
  exact ⟨rfl, hb⟩
/-- What Print comes to. -/
def Shown (K : Int) (a b : Nat) (T : ByteArray) (E : Int) : Prop :=
  (∃ k : Nat, K = (k : Int) ∧ Valid k a b ∧ E = 0 ∧ T.data.toList = ptext k a b) ∨ ((¬ ∃ k : Nat, K = (k : Int) ∧ Valid k a b) ∧ E = 40 ∧ T = .empty)
theorem shown_ex (K : Int) (a b : Nat) : ∃ T E, Shown K a b T E := by
  by_cases h : ∃ k : Nat, K = (k : Int) ∧ Valid k a b
  · obtain ⟨k, e, hv⟩ := h
    exact ⟨⟨(ptext k a b).toArray⟩, 0, .inl ⟨k, e, hv, rfl, by simp⟩⟩
  · exact ⟨.empty, 40, .inr ⟨h, rfl, rfl⟩⟩
theorem not_valid {K : Int} {a b : Nat} (ha : a < 18446744073709551616) (hb : b < 18446744073709551616) (h : ¬ ∃ k : Nat, K = (k : Int) ∧ Valid k a b) :
    ¬ (1 ≤ K ∧ K ≤ 8) ∨ ∃ k : Nat, K = (k : Int) ∧ 1 ≤ k ∧ k ≤ 8 ∧ two k = false ∧ b ≠ 0 := by
  by_cases h8 : 1 ≤ K ∧ K ≤ 8
  · right
    obtain ⟨k, rfl⟩ : ∃ k : Nat, K = (k : Int) := ⟨K.toNat, by omega⟩
    refine ⟨k, rfl, by omega, by omega, ?_⟩
    cases ht : two k with
    | true => exact absurd ⟨k, rfl, by omega, by omega, ha, hb, .inl ht⟩ h
    | false =>
      refine ⟨rfl, fun h0 => h ⟨k, rfl, by omega, by omega, ha, hb, .inr h0⟩⟩
  · exact .inl h8
theorem pr_at (K : Int) (a b : Nat) (T : ByteArray) (E : Int) (h : Shown K a b T E) (ha : a < 18446744073709551616) (hb : b < 18446744073709551616) (w : World) (hT : Tens w) :
    Calls Tryd.prog 10 #[pathV K a b] w (PairTo (.string T) E w) := by
  rcases h with ⟨k, rfl, hv, rfl, hl⟩ | ⟨hn, rfl, rfl⟩
  · rw [of_list hl]; exact pr_ok k a b hv w hT
  · exact pr_no K a b (not_valid ha hb hn) w
theorem qpr_any (K : Int) (a b : Nat) (T : ByteArray) (E : Int) (h : Shown K a b T E) (ha : a < 18446744073709551616) (hb : b < 18446744073709551616) (w : World) :
    Calls Tryd.prog 11 #[pathV K a b] w (PairTo (.string T) E w) := by
  rcases h with ⟨k, rfl, hv, rfl, hl⟩ | ⟨hn, rfl, rfl⟩
  · rw [of_list hl]; exact qpr_ok k a b hv w
  · exact qpr_no K a b (not_valid ha hb hn) w

theorem a_text : ptext 5 3 7 = [99, 111, 109, 109, 105, 116, 109, 101, 110, 116, 115, 47, 99, 104, 97, 110, 110, 101, 108, 115, 47, 51, 47, 115, 101, 113, 117, 101, 110, 99, 101, 115, 47, 55] := by
  unfold ptext
  rw [dec_lt 3 (by omega), dec_lt 7 (by omega)]
  rfl
theorem a_shown : Shown 5 3 7 ⟨#[99, 111, 109, 109, 105, 116, 109, 101, 110, 116, 115, 47, 99, 104, 97, 110, 110, 101, 108, 115, 47, 51, 47, 115, 101, 113, 117, 101, 110, 99, 101, 115, 47, 55]⟩ 0 := .inl ⟨5, rfl, ⟨by omega, by omega, by omega, by omega, .inl rfl⟩, rfl, a_text.symm⟩
theorem a_found : Found [99, 111, 109, 109, 105, 116, 109, 101, 110, 116, 115, 47, 99, 104, 97, 110, 110, 101, 108, 115, 47, 51, 47, 115, 101, 113, 117, 101, 110, 99, 101, 115, 47, 55] 5 3 7 0 := .inl ⟨rfl, ⟨by omega, by omega, by omega, by omega, .inl rfl⟩, a_text⟩
theorem a_none : Found [99, 111, 110, 110, 101, 99, 116, 105, 111, 110, 115, 47, 48, 51] 0 0 0 40 := by
  refine .inr ⟨rfl, rfl, rfl, rfl, fun k a b hv e => ?_⟩
  obtain ⟨h1, h2, _⟩ := text_parts hv e
  have hk : k = 3 := by
    have h3 := congrArg (List.take (wA k).length) h1
    rw [List.take_left' rfl] at h3
    have key : ∀ m : Fin 9, 1 ≤ m.val → List.take (wA m.val).length [99, 111, 110, 110, 101, 99, 116, 105, 111, 110, 115, 47, 48, 51] = wA m.val → m.val = 3 := by decide
    exact key ⟨k, by have := hv.2.1; omega⟩ hv.1 h3
  subst hk
  have hf := dec_form a
  rw [← h2] at hf
  exact absurd hf (by decide)

set_option maxHeartbeats 1000000 in
theorem awake_any (w : World) (hT : Tens w) :
    Calls Tryd.prog 9 #[] w fun e w' => e = .returned (.bool true) ∧ Below w.heap.size w w' := by
  have HT := Lib.hid hT
  clear hT
  go_enter Tryd.func9, Tryd.ntmps9
  go_wp2_with fail
  refine (pr_at 5 3 7 _ 0 a_shown (by omega) (by omega) w HT.out).mono ?_
  rintro e w1 ⟨rfl, h1⟩
  have T1 := Lib.hid (tens_below HT.out h1)
  have B1 := Lib.hid h1
  clear h1
  go_wp2_with fail
  refine (pa_at ⟨#[99, 111, 110, 110, 101, 99, 116, 105, 111, 110, 115, 47, 48, 51]⟩ 0 0 0 40 a_none (by decide) w1 T1.out).mono ?_
  rintro e w2 ⟨rfl, h2⟩
  unfold pathV
  have T2 := Lib.hid (tens_below T1.out h2)
  have B2 := Lib.hid (B1.out.trans (h2.mono B1.out.size))
  clear h2
  go_wp2_with fail
  refine (pa_at ⟨#[99, 111, 109, 109, 105, 116, 109, 101, 110, 116, 115, 47, 99, 104, 97, 110, 110, 101, 108, 115, 47, 51, 47, 115, 101, 113, 117, 101, 110, 99, 101, 115, 47, 55]⟩ 5 3 7 0 a_found (by decide) _ (tens_alloc T2.out _)).mono ?_
  rintro e w3 ⟨rfl, h3⟩
  unfold pathV
  have B3 := Lib.hid ((B2.out.alloc B2.out.size (.cells #[.int .i64 0, .int .u64 0, .int .u64 0] 24)).trans (h3.mono (by have := B2.out.size; simp; omega)))
  clear h3
  go_wp2_with fail
  go_ret
  exact ⟨rfl, B3.out.alloc B3.out.size _⟩
end Go.Proofs.YtakfplkdjapooaaDoor.Sp
