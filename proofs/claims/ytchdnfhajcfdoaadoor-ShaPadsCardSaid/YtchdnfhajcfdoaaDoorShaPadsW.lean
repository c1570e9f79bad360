/- The statement on paddings: its walk. -/
import Derived.Test.YtchdnfhajcfdoaaDoorShaPadsP
import Derived.Test.YtchdnfhajcfdoaaDoorShaGoesW
namespace Go.Proofs.YtchdnfhajcfdoaaDoor.Sp
open Go Go.RowKit

/-- What has been gathered of the length behind k bytes. -/
def gath (n k : Nat) : Nat := 8 * n / 256 ^ (8 - k)
theorem gath_zero (n : Nat) (h : n < 1099511627776) : gath n 0 = 0 := by unfold gath; simp only [Nat.reducePow, Nat.reduceSub]; omega
theorem gath_all (n : Nat) : gath n 8 = 8 * n := by unfold gath; simp
theorem gath_succ (n k : Nat) (hk : k < 8) : gath n (k + 1) = 256 * gath n k + 8 * n / 256 ^ (7 - k) % 256 := by
  unfold gath
  have e1 : 8 - (k + 1) = 7 - k := by omega
  have e2 : 8 * n / 256 ^ (8 - k) = 8 * n / 256 ^ (7 - k) / 256 := by rw [Nat.div_div_eq_div_mul, show 8 - k = (7 - k) + 1 by omega, Nat.pow_succ]
  rw [e1, e2]; omega
theorem gath_le (n k : Nat) (h : n < 1099511627776) (hk : k ≤ 8) : gath n k ≤ 8796093022208 := by
  unfold gath
  have := Nat.div_le_self (8 * n) (256 ^ (8 - k))
  omega

/-- The length that the last eight bytes tell. -/
def told (l : List UInt8) : Nat := (l.drop (l.length - 8)).foldl (fun a b => 256 * a + b.toNat) 0
theorem fold8 (l : List UInt8) (h : l.length = 8) : l.foldl (fun a b => 256 * a + b.toNat) 0 =
    256 * (256 * (256 * (256 * (256 * (256 * (256 * (256 * 0 + (l.getD 0 0).toNat) + (l.getD 1 0).toNat) + (l.getD 2 0).toNat) + (l.getD 3 0).toNat) + (l.getD 4 0).toNat) + (l.getD 5 0).toNat) + (l.getD 6 0).toNat) + (l.getD 7 0).toNat := by
  match l, h with
  | [a, b, c, d, e, f, g, i], _ => simp only [List.foldl_cons, List.foldl_nil, List.getD_cons_zero, List.getD_cons_succ]
theorem told_pad (n : Nat) (h : n < 1099511627776) : told (pad n) = 8 * n := by
  have step : ∀ k, k < 8 → 256 * gath n k + ((tail8 n).getD k 0).toNat = gath n (k + 1) := fun k hk => by rw [gath_succ n k hk, tail8_get n k hk]
  have e0 : 256 * 0 + ((tail8 n).getD 0 0).toNat = gath n 1 := by rw [← step 0 (by omega), gath_zero n h]
  have hd : (pad n).drop ((pad n).length - 8) = tail8 n := by
    rw [pad_split, List.length_append, tail8_length, Nat.add_sub_cancel, List.drop_left]
  unfold told
  rw [hd, fold8 (tail8 n) (tail8_length n), e0, step 1 (by omega), step 2 (by omega), step 3 (by omega), step 4 (by omega), step 5 (by omega), step 6 (by omega), step 7 (by omega), gath_all]
theorem pad_inj (n m : Nat) (h : n < 1099511627776) (h' : m < 1099511627776) (e : pad n = pad m) : n = m := by
  have h1 := told_pad n h
  rw [e, told_pad m h'] at h1
  omega

theorem ret_i64 {a b : Int} (h : a = b) : Ending.returned (.int .i64 a) = .returned (.int .i64 b) := by rw [h]
def Picked (m : Nat) (w : World) (e : Ending) (w' : World) : Prop := ∃ r : Nat, r < m ∧ e = .returned (.int .i64 (r : Int)) ∧ w = w'
theorem pick_any (c : Int) (h1 : -9223372036854775808 ≤ c) (h2 : c ≤ 9223372036854775807) (w : World) :
    Calls Tryd.prog 24 #[.int .i64 c, .int .i64 1099511627776] w (Picked 1099511627776 w) := by
  by_cases hc : c < 0
  · go_enter Tryd.func24, Tryd.ntmps24
    go_wp2
    go_ret
    refine ⟨((-(c + 1)) % 1099511627776).toNat, by omega, ret_i64 ?_, rfl⟩
    rw [← Int.neg_tmod, Int.tmod_eq_emod_of_nonneg (by omega)]
    omega
  · go_enter Tryd.func24, Tryd.ntmps24
    go_wp2
    go_ret
    exact ⟨(c % 1099511627776).toNat, by omega, ret_i64 (by omega), rfl⟩

/-- What the loops read of a padding. -/
theorem pad_byte (n : Nat) (P : ByteArray) (hP : P = ⟨(pad n).toArray⟩) (i : Nat) (hi : i < P.size) : P[i] = (pad n).getD i 0 := by
  subst hP
  rw [← getD_data ⟨(pad n).toArray⟩ i i rfl hi]
theorem pad_zero (n i : Nat) (h1 : 1 ≤ i) (h2 : i < 1 + zeros n) : (pad n).getD i 0 = 0 := by
  rw [pad_split, List.getD_eq_getElem?_getD, List.getElem?_append_left (by simp; omega)]
  obtain ⟨j, rfl⟩ : ∃ j, i = j + 1 := ⟨i - 1, by omega⟩
  rw [List.getElem?_cons_succ, List.getElem?_replicate]
  split <;> rfl
theorem pad_tail (n k : Nat) (hk : k < 8) : ((pad n).getD (1 + zeros n + k) 0).toNat = 8 * n / 256 ^ (7 - k) % 256 := by
  rw [← tail8_get n k hk, pad_split, List.getD_eq_getElem?_getD, List.getElem?_append_right (by simp; omega), List.getD_eq_getElem?_getD]
  congr 3
  simp; omega
/-- The walk behind the two lengths that were picked. -/
theorem pads_tail (r m : Nat) (hr : r < 1099511627776) (hm : m < 1099511627776) (P Q : ByteArray) (hP : P = ⟨(pad r).toArray⟩) (hQ : Q = ⟨(pad m).toArray⟩) :
    ((P.toList == Q.toList) = true ∧ ((r : Int) == (m : Int)) = true) ∨ ((P.toList == Q.toList) = false ∧ ((r : Int) == (m : Int)) = false) := by
  by_cases h : r = m
  · subst h
    left
    rw [hP, hQ]
    exact ⟨by simp, by simp⟩
  · right
    refine ⟨?_, beq_eq_false_iff_ne.2 (by omega)⟩
    rw [beq_eq_false_iff_ne]
    intro e
    apply h
    apply pad_inj r m hr hm
    have e2 : P.data.toList = Q.data.toList := by rw [← Lib.toList_data, ← Lib.toList_data, e]
    rw [hP, hQ] at e2
    simpa using e2

set_option maxHeartbeats 1000000 in
theorem pads_law (n0 m0 : Int) (hn1 : -9223372036854775808 ≤ n0) (hn2 : n0 ≤ 9223372036854775807) (hm1 : -9223372036854775808 ≤ m0) (hm2 : m0 ≤ 9223372036854775807) (w : World) (hT : Tab w) :
    Calls Tryd.prog 5 #[.int .i64 n0, .int .i64 m0] w fun e w' => e = .returned (.bool true) ∧ Below w.heap.size w w' := by
  have HT := Lib.hid hT
  clear hT
  go_enter Tryd.func5, Tryd.ntmps5
  go_wp2_with fail
  refine (awake_any _ HT.out).mono ?_
  rintro e w1 ⟨rfl, hb1⟩
  have B1 := Lib.hid hb1
  clear hb1
  go_wp2_with fail
  refine (pick_any n0 hn1 hn2 _).mono ?_
  rintro e w2 ⟨r, hr, rfl, rfl⟩
  go_wp2_with fail
  refine (pick_any m0 hm1 hm2 _).mono ?_
  rintro e w2 ⟨m, hm, rfl, rfl⟩
  obtain ⟨P, eP⟩ : ∃ P : ByteArray, P = ⟨(pad r).toArray⟩ := ⟨_, rfl⟩
  obtain ⟨Q, eQ⟩ : ∃ Q : ByteArray, Q = ⟨(pad m).toArray⟩ := ⟨_, rfl⟩
  have hPs := padB_size r P eP
  have hPz := zeros_le r
  have cases2 := Lib.hid (pads_tail r m hr hm P Q eP eQ)
  obtain ⟨b, hb⟩ : ∃ b : Nat, b = 1 + zeros r := ⟨_, rfl⟩
  have hPb : (P.size : Int) - 8 = (b : Int) := by omega
  have hb1 : 1 ≤ b := by omega
  have hb2 : b ≤ 64 := by omega
  have hPb2 : P.size ≤ b + 8 := by omega
  have hPb3 : b + 8 ≤ P.size := by omega
  have hP0 : 0 < P.size := by omega
  have k1 : ¬ (P.size : Int) < 9 := by omega
  have k2 : ¬ (72 : Int) < (P.size : Int) := by omega
  have k3 : (((r : Int) + (P.size : Int)) % 64 != 0) = false := by rw [bne_eq_false_iff_eq]; unfold zeros at hPs; omega
  have k4 : (((P[0]'hP0).toNat : Int) != 128) = false := by
    rw [pad_byte r P eP 0 hP0]; rfl
  have EP := Lib.hid eP
  have EQ := Lib.hid eQ
  have EB := Lib.hid hb
  clear eP eQ hPs hPz hb
  go_wp2_with fail
  refine (padB r (by omega) _ P EP.out).mono ?_
  rintro e w3 ⟨rfl, hb3⟩
  have B3 := Lib.hid (B1.out.trans (hb3.mono B1.out.size))
  clear hb3
  go_wp2_with fail
  refine (padB m (by omega) _ Q EQ.out).mono ?_
  rintro e w4 ⟨rfl, hb4⟩
  have B4 := Lib.hid (B3.out.trans (hb4.mono B3.out.size))
  clear hb4
  go_wp2_with fail
  go_loop [8, 9] (fun v i => ∃ j : Nat, b ≤ j ∧ j ≤ b + 8 ∧ v = .int .i64 ((gath r (j - b) : Nat) : Int) ∧ i = .int .i64 (j : Int)) (fun _ i => P.size - (intOf i).toNat)
  case atStart => exact ⟨b, Nat.le_refl _, by omega, by rw [Nat.sub_self, gath_zero r hr]; rfl, rfl⟩
  case round =>
    obtain ⟨j, hj1, hj2, rfl, rfl⟩ := hrel
    by_cases hlt : j < P.size
    · have hbyte : (P[j]'hlt).toNat < 256 := (P[j]'hlt).toNat_lt
      have hg := gath_le r (j - b) hr (by omega)
      have heq := Lib.hid (show gath r (j + 1 - b) = 256 * gath r (j - b) + (P[j]'hlt).toNat from by
        rw [show j + 1 - b = (j - b) + 1 by omega, gath_succ r (j - b) (by omega), ← pad_tail r (j - b) (by omega), pad_byte r P EP.out j hlt, ← EB.out, show b + (j - b) = j by omega])
      have hji : (j : Int) < (P.size : Int) := by omega
      go_wp2_with fail
      go_round
      case rel => exact ⟨j + 1, by omega, by omega, by rw [heq.out]; go_num, by go_num⟩
      case measure => simp [intOf]; omega
    · have hj8 : j - b = 8 := by omega
      have hji : ¬ (j : Int) < (P.size : Int) := by omega
      rw [hj8, gath_all]
      have hcast : ((8 * r : Nat) : Int) = 8 * (r : Int) := by omega
      rw [hcast]
      clear hcast
      have k5 : ((8 * (r : Int)) == (8 * (r : Int))) = true := by simp
      clear hj8
      go_wp2_with fail
      go_loop [10] (fun i => ∃ j : Nat, 1 ≤ j ∧ j ≤ b ∧ i = .int .i64 (j : Int)) (fun i => b - (intOf i).toNat)
      case atStart => exact ⟨1, by omega, hb1, rfl⟩
      case round =>
        clear hji
        obtain ⟨q, hq1, hq2, rfl⟩ := hrel
        by_cases hqb : q < b
        · have hqP : q < P.size := by omega
          have k6 : (((P[q]'hqP).toNat : Int) != 0) = false := by
            rw [pad_byte r P EP.out q hqP, pad_zero r q hq1 (by rw [← EB.out]; exact hqb)]; rfl
          have hqi : (q : Int) < (b : Int) := by omega
          go_wp2_with fail
          go_round
          case rel => exact ⟨q + 1, by omega, by omega, by go_num⟩
          case measure => simp [intOf]; omega
        · have hqi : ¬ (q : Int) < (b : Int) := by omega
          rcases cases2.out with ⟨c1, c2⟩ | ⟨c1, c2⟩
          all_goals
            go_wp2_with fail
            go_ret
            exact ⟨rfl, B4.out⟩

end Go.Proofs.YtchdnfhajcfdoaaDoor.Sp
