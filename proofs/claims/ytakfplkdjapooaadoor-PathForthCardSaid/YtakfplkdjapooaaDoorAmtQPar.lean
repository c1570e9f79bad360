/- The document's own Parse: what the program's Parse returns. -/
import Derived.Test.YtakfplkdjapooaaDoorAmtParse
namespace Go.Proofs.YtakfplkdjapooaaDoor.Sp
open Go Go.RowKit

/-- The first k bytes are digits. -/
def Digs (l : List UInt8) (k : Nat) : Prop := ∀ b ∈ l.take k, isDig b

set_option maxHeartbeats 1000000 in
theorem qparse_any (t : ByteArray) (ht : t.size ≤ 9223372036854775807) (w : World) :
    Calls Tryd.prog 29 #[.string t] w fun e w' => e = .returned (.tuple #[.int .u64 (parN t.data.toList : Int), .int .i64 (parE t.data.toList)]) ∧ w = w' := by
  have Hlen := Lib.hid (size_list t)
  obtain ⟨N, eN⟩ : ∃ N, N = parN t.data.toList := ⟨_, rfl⟩
  obtain ⟨E, eE⟩ : ∃ E, E = parE t.data.toList := ⟨_, rfl⟩
  rw [← eN, ← eE]
  have HN := Lib.hid eN
  have HE := Lib.hid eE
  clear eN eE
  have bad : ¬ Form t.data.toList → N = 0 ∧ E = 30 := fun h => ⟨by rw [HN.out, parN, if_neg h], by rw [HE.out, parE, if_neg h]⟩
  have good : Form t.data.toList → N = valN t.data.toList ∧ E = valE t.data.toList := fun h => ⟨by rw [HN.out, parN, if_pos h], by rw [HE.out, parE, if_pos h]⟩
  have Hbad := Lib.hid bad
  have Hgood := Lib.hid good
  clear bad good
  rcases Nat.eq_zero_or_pos t.size with h0 | h0
  · have HF := Lib.hid (Hbad.out fun h => h.1 (List.eq_nil_of_length_eq_zero (by rw [Hlen.out, h0])))
    obtain rfl : t = .empty := list_inj (by rw [List.eq_nil_of_length_eq_zero (show t.data.toList.length = 0 by rw [Hlen.out, h0])]; rfl)
    clear ht h0
    go_enter Tryd.func29, Tryd.ntmps29
    go_wp2_with fail
    go_ret2
    rw [HF.out.1, HF.out.2]
    exact ⟨rfl, rfl⟩
  · have hne : t.toList.isEmpty = false := by
      rw [ByteArray.toList_eq, Bool.eq_false_iff]; intro h
      rw [List.isEmpty_iff] at h; have := Hlen.out; rw [h] at this; simp at this; omega
    have Hhead := Lib.hid (head_zero t h0)
    by_cases hz : t[0].toNat = 48 ∧ 1 < t.size
    · obtain ⟨hz, h1⟩ := hz
      have hzi : (t[0].toNat : Int) = 48 := by omega
      have h1i : (1 : Int) < (t.size : Int) := by omega
      have HF := Lib.hid (Hbad.out (by
        rintro ⟨_, _, h⟩
        rcases h with h | h
        · rw [Hlen.out] at h; omega
        · rw [Hhead.out] at h; exact h (by rw [show t[0] = 48 from UInt8.toNat_inj.1 hz])))
      clear hz
      go_enter Tryd.func29, Tryd.ntmps29
      go_wp2_with fail
      go_ret2
      rw [HF.out.1, HF.out.2]
      exact ⟨rfl, rfl⟩
    · have Hz := Lib.hid (show t.data.toList.length = 1 ∨ t.data.toList.head? ≠ some 48 from by
        rw [Hlen.out, Hhead.out]
        by_cases h1 : 1 < t.size
        · right; intro e; injection e with e; exact hz ⟨by rw [e]; rfl, h1⟩
        · left; omega)
      have htest : ((((t[0].toNat : Int) == 48) && decide ((1 : Int) < (t.size : Int))) = false) := by
        rw [Bool.eq_false_iff]; intro h
        simp only [Bool.and_eq_true, beq_iff_eq, decide_eq_true_iff] at h
        exact hz ⟨by omega, by omega⟩
      go_enter Tryd.func29, Tryd.ntmps29
      go_wp2_with fail
      all_goals
        clear hne htest hz
        go_loop [4] (fun i => ∃ k : Nat, k ≤ t.size ∧ i = .int .i64 (k : Int) ∧ Hid (Digs t.data.toList k)) (fun i => t.size - (intOf i).toNat)
        case atStart => exact ⟨0, Nat.zero_le _, rfl, by intro b hb; simp at hb⟩
        case round =>
          obtain ⟨k, hk, rfl, HA⟩ := hrel
          by_cases hlt : k < t.size
          · have hki : (k : Int) < (t.size : Int) := by omega
            have hk0 : (0 : Int) ≤ (k : Int) := by omega
            by_cases hd : isDig t[k]
            · have HA2 := Lib.hid (show Digs t.data.toList (k + 1) from by
                intro b hb
                rw [byte_ t k hlt] at hb
                rcases List.mem_append.1 hb with hb | hb
                · exact HA.out b hb
                · rw [List.mem_singleton] at hb; subst hb; exact hd)
              unfold isDig at hd
              have h1i : ¬ (t[k].toNat : Int) < 48 := by omega
              have h2i : ¬ (57 : Int) < (t[k].toNat : Int) := by omega
              clear HA hd
              go_wp2_with fail
              go_round
              case rel => exact ⟨k + 1, by omega, by go_num, HA2⟩
              case measure => simp [intOf]; omega
            · have HF := Lib.hid (Hbad.out fun h => hd (h.2.1 _ (byte_mem t k hlt)))
              unfold isDig at hd
              by_cases h1 : t[k].toNat < 48
              · have h1i : (t[k].toNat : Int) < 48 := by omega
                clear hd h1
                go_wp2_with fail
                go_ret2
                rw [HF.out.1, HF.out.2]
                exact ⟨rfl, rfl⟩
              · have h1i : ¬ (t[k].toNat : Int) < 48 := by omega
                have h2i : (57 : Int) < (t[k].toNat : Int) := by omega
                clear hd h1
                go_wp2_with fail
                go_ret2
                rw [HF.out.1, HF.out.2]
                exact ⟨rfl, rfl⟩
          · have HD := Lib.hid (show ∀ b ∈ t.data.toList, isDig b from by
              have h := HA.out
              unfold Digs at h
              rw [List.take_of_length_le (l := t.data.toList) (by rw [Hlen.out]; omega)] at h
              exact h)
            have HG := Lib.hid (Hgood.out ⟨fun h => by have := Hlen.out; rw [h] at this; simp at this; omega, HD.out, Hz.out⟩)
            have hki : ¬ (k : Int) < (t.size : Int) := by omega
            clear hk hlt HA
            go_wp2_with fail
            clear hki
            go_loop [5, 6] (fun v i => ∃ k a : Nat, k ≤ t.size ∧ v = .int .u64 (a : Int) ∧ i = .int .i64 (k : Int) ∧ a < 18446744073709551616 ∧ Hid (a = dval (t.data.toList.take k))) (fun _ i => t.size - (intOf i).toNat)
            case atStart => exact ⟨0, 0, Nat.zero_le _, rfl, rfl, by omega, rfl⟩
            case round =>
              obtain ⟨k, a, hk, rfl, rfl, ha, HA⟩ := hrel
              by_cases hlt : k < t.size
              · have hki : (k : Int) < (t.size : Int) := by omega
                have hk0 : (0 : Int) ≤ (k : Int) := by omega
                have hdg := HD.out _ (byte_mem t k hlt)
                unfold isDig at hdg
                have hnext : dval (t.data.toList.take (k + 1)) = 10 * a + (t[k].toNat - 48) := by rw [byte_ t k hlt, dval_snoc, HA.out]
                by_cases hov : (18446744073709551615 - ((t[k].toNat : Int) - 48)) / 10 < (a : Int)
                · have HO := Lib.hid (show ¬ dval t.data.toList < 18446744073709551616 from by
                    have := dval_take t.data.toList (k + 1)
                    omega)
                  clear hnext
                  go_wp2_with fail
                  go_ret2
                  rw [HG.out.1, HG.out.2, valN, valE, if_neg HO.out, if_neg HO.out]
                  exact ⟨rfl, rfl⟩
                · have hsum : 10 * (a : Int) + ((t[k].toNat : Int) - 48) < 18446744073709551616 := by omega
                  have ha10 : 10 * (a : Int) < 18446744073709551616 := by omega
                  have HN := Lib.hid (show 10 * a + (t[k].toNat - 48) = dval (t.data.toList.take (k + 1)) from hnext.symm)
                  have hlt' : 10 * a + (t[k].toNat - 48) < 18446744073709551616 := by omega
                  clear hnext
                  go_wp2_with fail
                  go_round
                  case rel =>
                    refine ⟨k + 1, 10 * a + (t[k].toNat - 48), by omega, ?_, by go_num, hlt', HN⟩
                    congr 1
                    omega
                  case measure => simp [intOf]; omega
              · have HK := Lib.hid (show t.data.toList.take k = t.data.toList from List.take_of_length_le (by rw [Hlen.out]; omega))
                have hki : ¬ (k : Int) < (t.size : Int) := by omega
                go_wp2_with fail
                go_ret2
                have := HA.out
                rw [HK.out] at this
                subst this
                rw [HG.out.1, HG.out.2, valN, valE, if_pos ha, if_pos ha]
                exact ⟨rfl, rfl⟩
end Go.Proofs.YtakfplkdjapooaaDoor.Sp
