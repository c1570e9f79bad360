/- The document's own Print of paths. -/
import Derived.Test.YtakfplkdjapooaaDoorPthRef
import Derived.Test.YtakfplkdjapooaaDoorPthEls
import Derived.Deep.RegionHeld3
import Derived.Deep.RegionLaw
import Derived.WalkLawsBesides
namespace Go.Proofs.YtakfplkdjapooaaDoor.Sp
open Go Go.RowKit


theorem qprint_at (n : Nat) (t : ByteArray) (h : ⟨(dec n).toArray⟩ = t) (hn : n < 18446744073709551616) (w : World) :
    Calls Tryd.prog 16 #[.int .u64 (n : Int)] w fun e w' => e = .returned (.string t) ∧ Below w.heap.size w w' := by
  subst h
  exact qprint_any n hn w
theorem forms_at (k : Nat) (S T : ByteArray) (B : Bool) (hS : ⟨(wA k).toArray⟩ = S) (hT : ⟨(wB k).toArray⟩ = T) (hB : two k = B) (h1 : 1 ≤ k) (h8 : k ≤ 8) (w : World) :
    Calls Tryd.prog 20 #[.int .i64 (k : Int)] w fun e w' => e = .returned (.tuple #[.string S, .string T, .bool B]) ∧ w = w' := by
  subst hS; subst hT; subst hB
  exact forms_any k h1 h8 w

set_option maxHeartbeats 1000000 in
theorem qpr_ok (k a b : Nat) (hv : Valid k a b) (w : World) :
    Calls Tryd.prog 11 #[pathV k a b] w fun e w' => e = .returned (.tuple #[.string ⟨(ptext k a b).toArray⟩, .int .i64 0]) ∧ Below w.heap.size w w' := by
  obtain ⟨h1, h8, ha, hb, htwo⟩ := hv
  obtain ⟨S, hS⟩ : ∃ S : ByteArray, ⟨(wA k).toArray⟩ = S := ⟨_, rfl⟩
  obtain ⟨T, hT⟩ : ∃ T : ByteArray, ⟨(wB k).toArray⟩ = T := ⟨_, rfl⟩
  obtain ⟨B, hB⟩ : ∃ B : Bool, two k = B := ⟨_, rfl⟩
  obtain ⟨X, hX⟩ : ∃ X : ByteArray, ⟨(dec a).toArray⟩ = X := ⟨_, rfl⟩
  obtain ⟨Y, hY⟩ : ∃ Y : ByteArray, ⟨(dec b).toArray⟩ = Y := ⟨_, rfl⟩
  obtain ⟨R, hR⟩ : ∃ R : ByteArray, ⟨(ptext k a b).toArray⟩ = R := ⟨_, rfl⟩
  rw [hR]
  have lS : S.data.toList = wA k := by rw [← hS]
  have lT : T.data.toList = wB k := by rw [← hT]
  have lX : X.data.toList = dec a := by rw [← hX]
  have lY : Y.data.toList = dec b := by rw [← hY]
  have hw := word_len k
  have sS : S.size ≤ 26 := by rw [← size_list, lS]; exact hw.1
  have sT : T.size ≤ 17 := by rw [← size_list, lT]; exact hw.2
  have sX : X.size ≤ 20 := by rw [← size_list, lX]; exact (dec_len a 20 (by omega)).2 (Nat.lt_trans ha (by decide))
  have sY : Y.size ≤ 20 := by rw [← size_list, lY]; exact (dec_len b 20 (by omega)).2 (Nat.lt_trans hb (by decide))
  have hne : S.toList.isEmpty = false := by
    rw [ByteArray.toList_eq, lS, Bool.eq_false_iff]; intro h
    rw [List.isEmpty_iff] at h
    have := long4 k h1 h8
    rw [h] at this; simp at this
  have i1 : ¬ 9223372036854775807 < S.size + X.size := by omega
  have i2 : ¬ 9223372036854775807 < S.size + X.size + T.size := by omega
  have i3 : ¬ 9223372036854775807 < S.size + X.size + T.size + Y.size := by omega
  have hR1 := Lib.hid (show B = false → S ++ X ++ T = R from fun h => by
    apply list_inj; rw [← hR, Go.Joins.data_append, Go.Joins.data_append, lS, lX, lT, ptext, hB, h]; simp)
  have hR2 := Lib.hid (show B = true → S ++ X ++ T ++ Y = R from fun h => by
    apply list_inj; rw [← hR, Go.Joins.data_append, Go.Joins.data_append, Go.Joins.data_append, lS, lX, lT, lY, ptext, hB, h]; simp)
  have HF := Lib.hid (forms_at k S T B hS hT hB h1 h8)
  have HX := Lib.hid hX
  have HY := Lib.hid hY
  rw [hB] at htwo
  clear hS hT hX hY hR hB lS lT lX lY hw sS sT sX sY h1 h8
  have hal : Below w.heap.size w (w.alloc (.cells #[.int .i64 (k : Int), .int .u64 (a : Int), .int .u64 (b : Int)] 24)) := (Below.refl _ _).alloc (Nat.le_refl _) _
  have HAL := Lib.hid hal
  clear hal
  cases B with
  | true =>
    have HR := hR2.out rfl
    clear hR1 hR2 htwo
    unfold pathV
    go_enter Tryd.func11, Tryd.ntmps11
    go_wp2_with fail
    refine (HF.out _).mono ?_
    rintro e w' ⟨rfl, rfl⟩
    go_wp2_with fail
    refine (qprint_at a X HX.out ha _).mono ?_
    rintro e w2 ⟨rfl, h2⟩
    have c2 : w2.cell? ⟨w.heap.size, 2, none⟩ = some (.int .u64 (b : Int)) := (Blk.below (Blk.new w 24 #[.int .i64 (k : Int), .int .u64 (a : Int), .int .u64 (b : Int)]) h2 (by simp)).cell 2
    have B2 := Lib.hid (HAL.out.trans (h2.mono (by simp)))
    clear h2
    go_wp2_with fail
    refine (qprint_at b Y HY.out hb _).mono ?_
    rintro e w3 ⟨rfl, h3⟩
    have B3 := Lib.hid (B2.out.trans (h3.mono B2.out.size))
    clear h3 c2
    go_wp2_with fail
    go_ret2
    exact ⟨rfl, B3.out⟩
  | false =>
    obtain rfl := htwo.resolve_left (by decide)
    have HR := hR1.out rfl
    clear hR1 hR2 htwo
    unfold pathV
    go_enter Tryd.func11, Tryd.ntmps11
    go_wp2_with fail
    refine (HF.out _).mono ?_
    rintro e w' ⟨rfl, rfl⟩
    go_wp2_with fail
    refine (qprint_at a X HX.out ha _).mono ?_
    rintro e w2 ⟨rfl, h2⟩
    have B2 := Lib.hid (HAL.out.trans (h2.mono (by simp)))
    clear h2
    go_wp2_with fail
    go_ret2
    exact ⟨rfl, B2.out⟩

/-- Where the kind is none, or the kind has no second number. -/
theorem qpr_no (K : Int) (a b : Nat) (h : ¬ (1 ≤ K ∧ K ≤ 8) ∨ ∃ k : Nat, K = (k : Int) ∧ 1 ≤ k ∧ k ≤ 8 ∧ two k = false ∧ b ≠ 0) (w : World) :
    Calls Tryd.prog 11 #[pathV K a b] w fun e w' => e = .returned (.tuple #[.string .empty, .int .i64 40]) ∧ Below w.heap.size w w' := by
  have hal : Below w.heap.size w (w.alloc (.cells #[.int .i64 K, .int .u64 (a : Int), .int .u64 (b : Int)] 24)) := (Below.refl _ _).alloc (Nat.le_refl _) _
  have HAL := Lib.hid hal
  clear hal
  unfold pathV
  rcases h with h | ⟨k, rfl, h1, h8, ht, hb⟩
  · have HF := Lib.hid (forms_no K h)
    clear h
    go_enter Tryd.func11, Tryd.ntmps11
    go_wp2_with fail
    refine (HF.out _).mono ?_
    rintro e w' ⟨rfl, rfl⟩
    go_wp2_with fail
    go_ret2
    exact ⟨rfl, HAL.out⟩
  · obtain ⟨S, hS⟩ : ∃ S : ByteArray, ⟨(wA k).toArray⟩ = S := ⟨_, rfl⟩
    obtain ⟨T, hT⟩ : ∃ T : ByteArray, ⟨(wB k).toArray⟩ = T := ⟨_, rfl⟩
    have hne : S.toList.isEmpty = false := by
      rw [ByteArray.toList_eq, ← hS, Bool.eq_false_iff]; intro h
      rw [List.isEmpty_iff] at h
      have := long4 k h1 h8
      simp only at h
      rw [h] at this; simp at this
    have hbn : ((b : Int) != 0) = true := by simp only [bne_iff_ne, ne_eq]; omega
    have HF := Lib.hid (forms_at k S T false hS hT ht h1 h8)
    clear hS hT h1 h8 ht hb
    go_enter Tryd.func11, Tryd.ntmps11
    go_wp2_with fail
    refine (HF.out _).mono ?_
    rintro e w' ⟨rfl, rfl⟩
    go_wp2_with fail
    go_ret2
    exact ⟨rfl, HAL.out⟩
end Go.Proofs.YtakfplkdjapooaaDoor.Sp
