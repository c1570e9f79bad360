/- Package amount's Parse: the number that digits are, or which of the two errors; nothing is written. -/
import Derived.Test.YtakfplkdjapooaaDoorMem
import Derived.Test.YtakfplkdjapooaaDoorAmtPure
import Derived.Deep.RegionHeld3
import Derived.WalkLawsBesides
import Derived.WalkMore
namespace Go.Proofs.YtakfplkdjapooaaDoor.Sp
open Go Go.RowKit

instance digDec (b : UInt8) : Decidable (isDig b) := by unfold isDig; infer_instance
instance formDec (l : List UInt8) : Decidable (Form l) := by unfold Form; infer_instance

/-- What digits are as an uint64, and the error; what Parse returns. -/
def valN (l : List UInt8) : Nat := if dval l < 18446744073709551616 then dval l else 0
def valE (l : List UInt8) : Int := if dval l < 18446744073709551616 then 0 else 31
def parN (l : List UInt8) : Nat := if Form l then valN l else 0
def parE (l : List UInt8) : Int := if Form l then valE l else 30

theorem dval_app (l m : List UInt8) : dval l ≤ dval (l ++ m) := by
  have h : dval (l ++ m) = dval l * 10 ^ m.length + dval m := by
    have := dval_fold m (dval l)
    simp only [dval, List.foldl_append] at this ⊢
    exact this
  rw [h]
  have h1 : 1 ≤ 10 ^ m.length := Nat.pow_pos (by omega)
  have h2 : dval l * 1 ≤ dval l * 10 ^ m.length := Nat.mul_le_mul_left _ h1
  omega
theorem dval_take (l : List UInt8) (k : Nat) : dval (l.take k) ≤ dval l := by
  have h := dval_app (l.take k) (l.drop k)
  rw [List.take_append_drop] at h
  exact h
theorem ret_pair {a c : Nat} {b d : Int} (h : a = c) (h' : b = d) : Ending.returned (.tuple #[.int .u64 (a : Int), .int .i64 b]) = .returned (.tuple #[.int .u64 (c : Int), .int .i64 d]) := by rw [h, h']

theorem byte_ (s : ByteArray) (k : Nat) (h : k < s.size) : s.data.toList.take (k + 1) = s.data.toList.take k ++ [s[k]] := by
  rw [List.take_succ_eq_append_getElem (by simpa using h)]; rfl
theorem byte_mem (s : ByteArray) (k : Nat) (h : k < s.size) : s[k] ∈ s.data.toList := by
  have h1 : k < s.data.toList.length := by simpa using h
  have h2 := List.getElem_mem h1
  exact h2

theorem leading_any (t : ByteArray) (ht : t.size ≤ 9223372036854775807) (w : World) :
    Calls Tryd.prog 53 #[.string t] w fun e w' => ∃ c : Nat, e = .returned (.int .i64 (c : Int)) ∧ w = w' ∧ c ≤ t.size ∧ (∀ b ∈ t.data.toList.take c, isDig b) ∧ (c = t.size ∨ ∃ h : c < t.size, ¬ isDig t[c]) := by
  go_enter Tryd.func53, Tryd.ntmps53
  go_wp2_with fail
  go_step3
  go_wp2_with fail
  go_step3
  go_wp2_with fail
  go_loop [3, 7] (fun c i => ∃ k : Nat, k ≤ t.size ∧ c = .int .i64 (k : Int) ∧ i = .int .i64 (k : Int) ∧ Hid (∀ b ∈ t.data.toList.take k, isDig b)) (fun _ i => t.size - (intOf i).toNat)
  case atStart => exact ⟨0, Nat.zero_le _, rfl, rfl, by intro b hb; simp at hb⟩
  case round =>
    obtain ⟨k, hk, rfl, rfl, HA⟩ := hrel
    by_cases hlt : k < t.size
    · have hki : (k : Int) < (t.size : Int) := by omega
      have hk0 : (0 : Int) ≤ (k : Int) := by omega
      by_cases h1 : t[k].toNat < 48
      · have h1i : (t[k].toNat : Int) < 48 := by omega
        go_wp2_with fail
        go_ret
        exact ⟨k, rfl, rfl, hk, HA.out, .inr ⟨hlt, by unfold isDig; omega⟩⟩
      · have h1i : ¬ (t[k].toNat : Int) < 48 := by omega
        by_cases h2 : 57 < t[k].toNat
        · have h2i : (57 : Int) < (t[k].toNat : Int) := by omega
          go_wp2_with fail
          go_ret
          exact ⟨k, rfl, rfl, hk, HA.out, .inr ⟨hlt, by unfold isDig; omega⟩⟩
        · have h2i : ¬ (57 : Int) < (t[k].toNat : Int) := by omega
          have HA2 := Lib.hid (show ∀ b ∈ t.data.toList.take (k + 1), isDig b from by
            intro b hb
            rw [byte_ t k hlt] at hb
            rcases List.mem_append.1 hb with hb | hb
            · exact HA.out b hb
            · rw [List.mem_singleton] at hb; subst hb; unfold isDig; omega)
          clear HA
          go_wp2_with fail
          refine ⟨⟨k + 1, by omega, by go_num, by go_num, HA2⟩, by simp [intOf]; omega⟩
    · have HK := Lib.hid (show k = t.size by omega)
      have hki : ¬ (k : Int) < (t.size : Int) := by omega
      go_wp2_with fail
      go_ret
      exact ⟨k, rfl, rfl, hk, HA.out, .inl HK.out⟩

theorem head_zero (t : ByteArray) (h : 0 < t.size) : t.data.toList.head? = some t[0] := by
  have h1 : 0 < t.data.toList.length := by simpa using h
  rw [List.head?_eq_getElem?, List.getElem?_eq_getElem h1]; rfl

theorem isDecimal_any (t : ByteArray) (ht : t.size ≤ 9223372036854775807) (w : World) :
    Calls Tryd.prog 41 #[.string t] w fun e w' => e = .returned (.bool (decide (Form t.data.toList))) ∧ w = w' := by
  have Hlen := Lib.hid (size_list t)
  rcases Nat.eq_zero_or_pos t.size with h0 | h0
  · have HF := Lib.hid (show decide (Form t.data.toList) = false from by
      rw [decide_eq_false_iff_not]; rintro ⟨h, _⟩
      exact h (List.eq_nil_of_length_eq_zero (by rw [Hlen.out, h0])))
    obtain rfl : t = .empty := list_inj (by rw [List.eq_nil_of_length_eq_zero (show t.data.toList.length = 0 by rw [Hlen.out, h0])]; rfl)
    clear ht h0
    obtain ⟨F, eF⟩ : ∃ F, F = decide (Form (ByteArray.empty).data.toList) := ⟨_, rfl⟩
    rw [← eF]
    have HeF := Lib.hid eF
    clear eF
    go_enter Tryd.func41, Tryd.ntmps41
    go_wp2_with fail
    go_ret
    rw [HeF.out, HF.out]
    exact ⟨rfl, rfl⟩
  · have hne : t.toList.isEmpty = false := by
      rw [ByteArray.toList_eq, Bool.eq_false_iff]; intro h
      rw [List.isEmpty_iff] at h; have := Hlen.out; rw [h] at this; simp at this; omega
    obtain ⟨F, eF⟩ : ∃ F, F = decide (Form t.data.toList) := ⟨_, rfl⟩
    rw [← eF]
    have HeF := Lib.hid eF
    have Hhead := Lib.hid (head_zero t h0)
    clear eF
    have fin : ∀ c : Nat, c ≤ t.size → (∀ b ∈ t.data.toList.take c, isDig b) → (c = t.size ∨ ∃ h : c < t.size, ¬ isDig t[c]) → (t.size = 1 ∨ t[0].toNat ≠ 48) → (decide (c = t.size)) = F := by
      intro c hc hdig hor hz
      rw [HeF.out, Bool.eq_iff_iff, decide_eq_true_iff, decide_eq_true_iff]
      constructor
      · rintro rfl
        rw [← Hlen.out, List.take_length] at hdig
        refine ⟨fun h => ?_, hdig, ?_⟩
        · have := Hlen.out; rw [h] at this; simp at this; omega
        · rcases hz with h | h
          · left; rw [Hlen.out, h]
          · right; rw [Hhead.out]; intro e; injection e with e; exact h (by rw [e]; rfl)
      · rintro ⟨_, hd, _⟩
        rcases hor with h | ⟨h, hno⟩
        · exact h
        · exact absurd (hd _ (byte_mem t c h)) hno
    have Hfin := Lib.hid fin
    clear fin
    by_cases hz : t[0].toNat = 48
    · have hzi : (t[0].toNat : Int) = 48 := by omega
      by_cases h1 : 1 < t.size
      · have h1i : (1 : Int) < (t.size : Int) := by omega
        have HF := Lib.hid (show F = false from by
          rw [HeF.out, decide_eq_false_iff_not]; rintro ⟨_, _, h⟩
          rcases h with h | h
          · rw [Hlen.out] at h; omega
          · rw [Hhead.out] at h; exact h (by rw [show t[0] = 48 from UInt8.toNat_inj.1 hz]))
        clear hz
        go_enter Tryd.func41, Tryd.ntmps41
        go_wp2_with fail
        go_ret
        rw [HF.out]
        exact ⟨rfl, rfl⟩
      · have h1i : ¬ (1 : Int) < (t.size : Int) := by omega
        have Hz := Lib.hid (show t.size = 1 ∨ t[0].toNat ≠ 48 from .inl (by omega))
        clear hz
        go_enter Tryd.func41, Tryd.ntmps41
        go_wp2_with fail
        refine (leading_any t ht w).mono ?_
        rintro e w' ⟨c, rfl, rfl, hc, hdig, hor⟩
        have Hf := Lib.hid (Hfin.out c hc hdig hor Hz.out)
        clear hc hdig hor
        go_wp2_with fail
        go_ret
        exact ⟨ret_bool (by rw [← Hf.out, Bool.eq_iff_iff, beq_iff_eq, decide_eq_true_iff]; omega), rfl⟩
    · have hzi : ¬ (t[0].toNat : Int) = 48 := by omega
      have Hz := Lib.hid (show t.size = 1 ∨ t[0].toNat ≠ 48 from .inr hz)
      clear hz
      go_enter Tryd.func41, Tryd.ntmps41
      go_wp2_with fail
      refine (leading_any t ht w).mono ?_
      rintro e w' ⟨c, rfl, rfl, hc, hdig, hor⟩
      have Hf := Lib.hid (Hfin.out c hc hdig hor Hz.out)
      clear hc hdig hor
      go_wp2_with fail
      go_ret
      exact ⟨ret_bool (by rw [← Hf.out, Bool.eq_iff_iff, beq_iff_eq, decide_eq_true_iff]; omega), rfl⟩

theorem value_any (t : ByteArray) (ht : t.size ≤ 9223372036854775807) (hd : ∀ b ∈ t.data.toList, isDig b) (w : World) :
    Calls Tryd.prog 42 #[.string t] w fun e w' => e = .returned (.tuple #[.int .u64 (valN t.data.toList : Int), .int .i64 (valE t.data.toList)]) ∧ w = w' := by
  have HD := Lib.hid hd
  clear hd
  go_enter Tryd.func42, Tryd.ntmps42
  go_wp2_with fail
  go_loop [4, 9] (fun v i => ∃ k a : Nat, k ≤ t.size ∧ v = .int .u64 (a : Int) ∧ i = .int .i64 (k : Int) ∧ a < 18446744073709551616 ∧ Hid (a = dval (t.data.toList.take k))) (fun _ i => t.size - (intOf i).toNat)
  case atStart => exact ⟨0, 0, Nat.zero_le _, rfl, rfl, by omega, rfl⟩
  case round =>
    obtain ⟨k, a, hk, rfl, rfl, ha, HA⟩ := hrel
    by_cases hlt : k < t.size
    · have hki : (k : Int) < (t.size : Int) := by omega
      have hk0 : (0 : Int) ≤ (k : Int) := by omega
      have hdg := HD.out _ (byte_mem t k hlt)
      unfold isDig at hdg
      have hnext : dval (t.data.toList.take (k + 1)) = 10 * a + (t[k].toNat - 48) := by rw [byte_ t k hlt, dval_snoc, HA.out]
      by_cases hov : (18446744073709551615 - ((t[k].toNat : Int) - 48)) / 10 < (a : Int)
      · have HO := Lib.hid (show ¬ dval t.data.toList < 18446744073709551616 from by
          have := dval_take t.data.toList (k + 1)
          omega)
        clear hnext
        go_wp2_with fail
        go_ret2
        refine ⟨?_, rfl⟩
        rw [valN, valE, if_neg HO.out, if_neg HO.out]
        rfl
      · have hsum : (a : Int) * 10 + ((t[k].toNat : Int) - 48) < 18446744073709551616 := by omega
        have ha10 : (a : Int) * 10 < 18446744073709551616 := by omega
        have HN := Lib.hid (show 10 * a + (t[k].toNat - 48) = dval (t.data.toList.take (k + 1)) from hnext.symm)
        have hlt' : 10 * a + (t[k].toNat - 48) < 18446744073709551616 := by omega
        clear hnext
        go_wp2_with fail
        refine ⟨⟨k + 1, 10 * a + (t[k].toNat - 48), by omega, ?_, by go_num, hlt', HN⟩, by simp [intOf]; omega⟩
        congr 1
        omega
    · have HK := Lib.hid (show t.data.toList.take k = t.data.toList from List.take_of_length_le (by rw [size_list]; omega))
      have hki : ¬ (k : Int) < (t.size : Int) := by omega
      go_wp2_with fail
      go_ret2
      have := HA.out
      rw [HK.out] at this
      subst this
      exact ⟨ret_pair (by rw [valN, if_pos ha]) (by rw [valE, if_pos ha]), rfl⟩

theorem parse_any (t : ByteArray) (ht : t.size ≤ 9223372036854775807) (w : World) :
    Calls Tryd.prog 36 #[.string t] w fun e w' => e = .returned (.tuple #[.int .u64 (parN t.data.toList : Int), .int .i64 (parE t.data.toList)]) ∧ w = w' := by
  by_cases hf : Form t.data.toList
  · have HF := Lib.hid hf
    have hdf : decide (Form t.data.toList) = true := decide_eq_true hf
    clear hf
    go_enter Tryd.func36, Tryd.ntmps36
    go_wp2_with fail
    refine (isDecimal_any t ht w).mono ?_
    rintro e w' ⟨rfl, rfl⟩
    rw [hdf]
    go_wp2_with fail
    refine (value_any t ht HF.out.2.1 w).mono ?_
    rintro e w' ⟨rfl, rfl⟩
    go_wp2_with fail
    go_ret2
    exact ⟨ret_pair (by rw [parN, if_pos HF.out]) (by rw [parE, if_pos HF.out]), rfl⟩
  · have HF := Lib.hid hf
    have hdf : decide (Form t.data.toList) = false := decide_eq_false hf
    clear hf
    go_enter Tryd.func36, Tryd.ntmps36
    go_wp2_with fail
    refine (isDecimal_any t ht w).mono ?_
    rintro e w' ⟨rfl, rfl⟩
    rw [hdf]
    go_wp2_with fail
    go_ret2
    exact ⟨ret_pair (a := 0) (by rw [parN, if_neg HF.out]) (by rw [parE, if_neg HF.out]), rfl⟩
end Go.Proofs.YtakfplkdjapooaaDoor.Sp
