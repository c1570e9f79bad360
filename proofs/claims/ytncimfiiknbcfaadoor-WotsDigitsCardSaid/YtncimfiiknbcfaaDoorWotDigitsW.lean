/- The walk of WotsDigits. -/
import Derived.Test.YtncimfiiknbcfaaDoorWotAwake
import Derived.Test.YtncimfiiknbcfaaDoorWotInts
namespace Go.Proofs.YtncimfiiknbcfaaDoor.Sp
open Go Go.RowKit

/-- What the first k of ten digits lack (the first eight count). -/
def lk (D : Nat → Nat) : Nat → Nat
  | 0 => 0
  | k + 1 => if k < 8 then lk D k + (15 - D k) else lk D k
/-- Is one of the first k lower? -/
def lo (D E : Nat → Nat) : Nat → Bool
  | 0 => false
  | k + 1 => lo D E k || decide (D k < E k)
theorem lo_false (D E : Nat → Nat) (k : Nat) : lo D E k = false ↔ ∀ j, j < k → E j ≤ D j := by
  induction k with
  | zero => exact ⟨fun _ j hj => by omega, fun _ => rfl⟩
  | succ k ih =>
    rw [lo, Bool.or_eq_false_iff, ih, decide_eq_false_iff_not]
    constructor
    · rintro ⟨h1, h2⟩ j hj
      rcases Nat.lt_or_ge j k with h | h
      · exact h1 j h
      · obtain rfl : j = k := by omega
        omega
    · intro h
      exact ⟨fun j hj => h j (by omega), by have := h k (by omega); omega⟩
theorem lk_take (l : List Nat) : ∀ k, k ≤ 8 → k ≤ l.length → lk (fun j => l.getD j 0) k = lacks (l.take k)
  | 0, _, _ => rfl
  | k + 1, h8, hl => by
    have hk : k < l.length := by omega
    rw [lk, if_pos (by omega), lk_take l k (by omega) (by omega), List.take_succ_eq_append_getElem hk, lacks_app]
    simp [lacks, List.getD, hk]
theorem lk_ten (msg : ByteArray) : lk (fun j => (digitsN msg).getD j 0) 10 = 16 * (digitsN msg).getD 8 0 + (digitsN msg).getD 9 0 := by
  rw [lk, if_neg (by omega), lk, if_neg (by omega), lk_take _ 8 (by omega) (by rw [digits_len]; omega), digits_check]
theorem lk_le (D : Nat → Nat) (k : Nat) : lk D k ≤ 15 * k := by
  induction k with
  | zero => exact Nat.le_refl _
  | succ k ih => rw [lk]; split <;> omega
theorem digits_same (x y : ByteArray) (h : ∀ j, j < 10 → (digitsN x).getD j 0 = (digitsN y).getD j 0) : digitsN x = digitsN y := digits_lower x y fun j hj => by rw [h j hj]; exact Nat.le_refl _
theorem lo_digits (x y : ByteArray) (S : Bool) (hS : S = true ↔ ∀ j, j < 10 → (digitsN x).getD j 0 = (digitsN y).getD j 0) :
    lo (fun j => (digitsN x).getD j 0) (fun j => (digitsN y).getD j 0) 10 = !S := by
  cases h : lo (fun j => (digitsN x).getD j 0) (fun j => (digitsN y).getD j 0) 10 with
  | false =>
    have h2 := digits_lower x y ((lo_false _ _ 10).1 h)
    rw [hS.2 (fun j _ => by rw [h2])]
    rfl
  | true =>
    cases S with
    | false => rfl
    | true =>
      have h2 := hS.1 rfl
      rw [(lo_false _ _ 10).2 (fun j hj => by show (digitsN y).getD j 0 ≤ (digitsN x).getD j 0; rw [h2 j hj]; exact Nat.le_refl _)] at h
      cases h

set_option maxHeartbeats 2000000 in
theorem digits_law (x y : ByteArray) (hx : x.size ≤ 140737488351232) (hy : y.size ≤ 140737488351232) (w : World) (hT : Tab w) :
    Calls Tryd.prog 6 #[.string x, .string y] w fun e w' => e = .returned (.bool true) ∧ Below w.heap.size w w' := by
  obtain ⟨S, hS⟩ : ∃ S, S = true ↔ ∀ j, j < 10 → (digitsN x).getD j 0 = (digitsN y).getD j 0 := by
    by_cases h : ∀ j, j < 10 → (digitsN x).getD j 0 = (digitsN y).getD j 0
    · exact ⟨true, fun _ => h, fun _ => rfl⟩
    · exact ⟨false, fun e => (by cases e), fun e => absurd e h⟩
  have L1 := lo_digits x y S hS
  have L2 := lo_digits y x S (hS.trans ⟨fun h j hj => (h j hj).symm, fun h j hj => (h j hj).symm⟩)
  have K1 := lk_ten x
  obtain ⟨D, hD⟩ : ∃ D : Nat → Nat, (fun j => (digitsN x).getD j 0) = D := ⟨_, rfl⟩
  obtain ⟨E, hE⟩ : ∃ E : Nat → Nat, (fun j => (digitsN y).getD j 0) = E := ⟨_, rfl⟩
  have hD' : ∀ j, (digitsN x).getD j 0 = D j := fun j => congrFun hD j
  have hE' : ∀ j, (digitsN y).getD j 0 = E j := fun j => congrFun hE j
  have hD15 : ∀ j, D j ≤ 15 := fun j => by rw [← hD']; exact digits_le x j
  rw [hD, hE] at L1
  rw [hD, hE] at L2
  rw [hD, hD', hD'] at K1
  simp only [hD', hE'] at hS
  have HD := Lib.hid hD'
  have HE := Lib.hid hE'
  have HL1 := Lib.hid L1
  have HL2 := Lib.hid L2
  have HK1 := Lib.hid K1
  have H15 := Lib.hid hD15
  have HS := Lib.hid hS
  have HT := Lib.hid hT
  clear hT hD hE hD' hE' L1 L2 K1 hD15 hS
  go_enter Tryd.func6, Tryd.ntmps6
  go_wp2_with fail
  refine (awake_any w HT.out).mono ?_
  rintro e w0 ⟨rfl, h0⟩
  have B0 := Lib.hid h0
  clear h0
  go_wp2_with fail
  refine (wdigits_any x hx w0 (tab_below HT.out B0.out)).mono ?_
  rintro e w1 ⟨a, ca, rfl, c1, h1⟩
  have B1 := Lib.hid (B0.out.trans (h1.mono B0.out.size))
  have C1 := Lib.hid c1
  clear h1 c1
  go_wp2_with fail
  refine (wdigits_any y hy w1 (tab_below HT.out B1.out)).mono ?_
  rintro e w2 ⟨b, cb, rfl, c2, h2⟩
  have B2 := Lib.hid (B1.out.trans (h2.mono B1.out.size))
  have C2 := Lib.hid (show Cells w2 b 10 (fun j => intV (E j)) from by simpa only [HE.out] using c2)
  have C3 := Lib.hid (show Cells w2 a 10 (fun j => intV (D j)) from by simpa only [HD.out] using C1.out.below_ h2)
  clear h2 c2 C1
  go_wp2_with fail
  go_loopw [8, 9, 10, 11] (fun s l h t wr => ∃ k : Nat, k ≤ 10 ∧ t = .int .i64 (k : Int) ∧ s = .int .i64 (lk D k : Nat) ∧ l = .bool (lo D E k) ∧ h = .bool (lo E D k) ∧ Below w2.heap.size w2 wr) (fun _ _ _ t _ => 10 - (intOf t).toNat)
  case atStart => exact ⟨0, by omega, rfl, rfl, rfl, rfl, Below.refl _ _⟩
  case round =>
    obtain ⟨k, hk, rfl, rfl, rfl, rfl, hbel⟩ := hrel
    have HB := Lib.hid hbel
    clear hbel
    obtain ⟨l, hl⟩ : ∃ l, lo D E k = l := ⟨_, rfl⟩
    obtain ⟨g, hg⟩ : ∃ g, lo E D k = g := ⟨_, rfl⟩
    obtain ⟨s, hs⟩ : ∃ s, lk D k = s := ⟨_, rfl⟩
    have hs150 : s ≤ 150 := by rw [← hs]; exact Nat.le_trans (lk_le D k) (by omega)
    rw [hl, hg, hs]
    by_cases hlt : k < 10
    · have hki : (k : Int) < 10 := by omega
      have hk0 : (0 : Int) ≤ (k : Int) := by omega
      obtain ⟨ba, oa, rfl, _, c1⟩ := C3.out.at_ HB.out hlt
      obtain ⟨bb, ob, rfl, _, c2⟩ := C2.out.at_ HB.out hlt
      obtain ⟨p, hp⟩ : ∃ p, D k = p := ⟨_, rfl⟩
      obtain ⟨q, hq⟩ : ∃ q, E k = q := ⟨_, rfl⟩
      have hp15 : p ≤ 15 := by rw [← hp]; exact H15.out k
      simp only [intV, hp] at c1
      simp only [intV, hq] at c2
      have n0 : ¬ (p : Int) < 0 := by omega
      have n15 : ¬ 15 < (p : Int) := by omega
      have N1 := Lib.hid (show lo D E (k + 1) = (l || decide (p < q)) from by rw [lo, hl, hp, hq])
      have N2 := Lib.hid (show lo E D (k + 1) = (g || decide (q < p)) from by rw [lo, hg, hp, hq])
      have c1' : ∀ n, (wr.drewN n).cell? ⟨ba, oa + k, none⟩ = some (.int .i64 (p : Int)) := fun n => by rw [World.cell?_drewN]; exact c1
      have c2' : ∀ n, (wr.drewN n).cell? ⟨bb, ob + k, none⟩ = some (.int .i64 (q : Int)) := fun n => by rw [World.cell?_drewN]; exact c2
      by_cases h8 : k < 8
      · have hk8 : (k : Int) < 8 := by omega
        obtain ⟨s2, hs2⟩ : ∃ s2, s + (15 - p) = s2 := ⟨_, rfl⟩
        obtain ⟨s1, hs1⟩ : ∃ s1, s + 15 = s1 := ⟨_, rfl⟩
        have N3 := Lib.hid (show lk D (k + 1) = s2 from by rw [lk, if_pos h8, hs, hp, hs2])
        have e1 : (s : Int) + 15 = (s1 : Int) := by omega
        have e2 : (s1 : Int) - (p : Int) = (s2 : Int) := by omega
        have e3 : IntKind.i64.wrap (s1 : Int) = (s1 : Int) := by rw [IntKind.wrap_i64]; omega
        have e4 : IntKind.i64.wrap (s2 : Int) = (s2 : Int) := by rw [IntKind.wrap_i64]; omega
        clear hs1 hs2 hl hg hs hp hq h8 hlt hs150
        cases l <;> cases g
        all_goals
          go_wp2_with fail
          go_quiet (fail)
          go_wp2_with fail
          go_quiet (fail)
          go_wp2_with fail
          go_roundw
          case rel => exact ⟨k + 1, by omega, by go_num, by rw [N3.out], by rw [N1.out]; rfl, by rw [N2.out]; rfl, below_drewN HB.out _⟩
          case measure => simp [intOf]; omega
      · have hk8 : ¬ (k : Int) < 8 := by omega
        have N3 := Lib.hid (show lk D (k + 1) = s from by rw [lk, if_neg h8, hs])
        clear hl hg hs hp hq h8 hlt hs150
        cases l <;> cases g
        all_goals
          go_wp2_with fail
          go_quiet (fail)
          go_wp2_with fail
          go_quiet (fail)
          go_wp2_with fail
          go_roundw
          case rel => exact ⟨k + 1, by omega, by go_num, by rw [N3.out], by rw [N1.out]; rfl, by rw [N2.out]; rfl, below_drewN HB.out _⟩
          case measure => simp [intOf]; omega
    · have hki : ¬ (k : Int) < 10 := by omega
      obtain rfl : k = 10 := by omega
      obtain ⟨ba, oa, rfl, _, c8⟩ := C3.out.at_ HB.out (k := 8) (by omega)
      obtain ⟨ba', oa', hab, _, c9⟩ := C3.out.at_ HB.out (k := 9) (by omega)
      obtain ⟨hab1, hab2⟩ : ba' = ba ∧ oa' = oa := by
        have h : ba = ba' ∧ oa = oa' := by simpa using hab
        exact ⟨h.1.symm, h.2.symm⟩
      rw [hab1, hab2] at c9
      clear hab hab1 hab2
      obtain ⟨p, hp⟩ : ∃ p, D 8 = p := ⟨_, rfl⟩
      obtain ⟨q, hq⟩ : ∃ q, D 9 = q := ⟨_, rfl⟩
      have hp15 : p ≤ 15 := by rw [← hp]; exact H15.out 8
      have hq15 : q ≤ 15 := by rw [← hq]; exact H15.out 9
      simp only [intV, hp] at c8
      simp only [intV, hq] at c9
      have hl2 : l = !S := by rw [← hl]; exact HL1.out
      have hg2 : g = !S := by rw [← hg]; exact HL2.out
      have hsv : s = 16 * p + q := by rw [← hs, ← hp, ← hq]; exact HK1.out
      subst hl2 hg2
      obtain ⟨m, hm⟩ : ∃ m, 16 * p = m := ⟨_, rfl⟩
      have e1 : 16 * (p : Int) = (m : Int) := by omega
      have e2 : (m : Int) + (q : Int) = (s : Int) := by omega
      have e3 : IntKind.i64.wrap (m : Int) = (m : Int) := by rw [IntKind.wrap_i64]; omega
      have e4 : IntKind.i64.wrap (s : Int) = (s : Int) := by rw [IntKind.wrap_i64]; omega
      clear hl hg hs hp hq hsv hm hlt hs150 hp15 hq15
      go_wp2_with fail
      refine (ints_any D E (some ⟨ba, oa, none⟩) b ca cb wr (C3.out.below_ HB.out) (C2.out.below_ HB.out) S HS.out).mono ?_
      rintro e w4 ⟨rfl, h4⟩
      have c8' : w4.cell? ⟨ba, oa + 8, none⟩ = some (.int .i64 (p : Int)) := (h4.cell (p := ⟨ba, oa + 8, none⟩) (block_lt_of_cell c8)).trans c8
      have c9' : w4.cell? ⟨ba, oa + 9, none⟩ = some (.int .i64 (q : Int)) := (h4.cell (p := ⟨ba, oa + 9, none⟩) (block_lt_of_cell c9)).trans c9
      have B4 := Lib.hid (B2.out.trans ((HB.out.trans (h4.mono HB.out.size)).mono B2.out.size))
      clear h4 c8 c9
      cases S
      all_goals
        go_wp2_with fail
        go_quiet (fail)
        go_wp2_with fail
        go_ret
        exact ⟨rfl, below_drewN B4.out _⟩
end Go.Proofs.YtncimfiiknbcfaaDoor.Sp
