/- The statements of package wots: Ints at two slices of ten numbers, pick. -/
import Derived.Test.YtncimfiiknbcfaaDoorWotQD
import Derived.BigQuiet
namespace Go.Proofs.YtncimfiiknbcfaaDoor.Sp
open Go Go.RowKit

theorem same_snoc (D E : Nat → Nat) (k : Nat) (h : ∀ j, j < k → D j = E j) (e : D k = E k) : ∀ j, j < k + 1 → D j = E j := by
  intro j hj
  rcases Nat.lt_or_ge j k with h1 | h1
  · exact h j h1
  · obtain rfl : j = k := by omega
    exact e

set_option maxHeartbeats 1000000 in
theorem ints_any (D E : Nat → Nat) (a b : Option Addr) (ca cb : Nat) (w : World) (h1 : Cells w a 10 (fun j => intV (D j))) (h2 : Cells w b 10 (fun j => intV (E j))) (S : Bool) (hS : S = true ↔ ∀ j, j < 10 → D j = E j) :
    Calls Tryd.prog 11 #[.slice a 10 ca, .slice b 10 cb] w fun e w' => e = .returned (.bool S) ∧ Below w.heap.size w w' := by
  have H1 := Lib.hid h1
  have H2 := Lib.hid h2
  have HS := Lib.hid hS
  clear h1 h2 hS
  go_enter Tryd.func11, Tryd.ntmps11
  go_wp2_with fail
  go_loopw [5] (fun x wr => ∃ k : Nat, k ≤ 10 ∧ x = .int .i64 (k : Int) ∧ (∀ j, j < k → D j = E j) ∧ Below w.heap.size w wr) (fun x _ => 10 - (intOf x).toNat)
  case atStart => exact ⟨0, by omega, rfl, fun j hj => by omega, Below.refl _ _⟩
  case round =>
    obtain ⟨k, hk, rfl, hsame, hbel⟩ := hrel
    have HM := Lib.hid hsame
    have HB := Lib.hid hbel
    clear hsame hbel
    by_cases hlt : k < 10
    · have hki : (k : Int) < 10 := by omega
      have hk0 : (0 : Int) ≤ (k : Int) := by omega
      obtain ⟨ba, oa, rfl, _, c1⟩ := H1.out.at_ HB.out hlt
      obtain ⟨bb, ob, rfl, _, c2⟩ := H2.out.at_ HB.out hlt
      obtain ⟨x, hx⟩ : ∃ x, D k = x := ⟨_, rfl⟩
      obtain ⟨y, hy⟩ : ∃ y, E k = y := ⟨_, rfl⟩
      simp only [intV, hx] at c1
      simp only [intV, hy] at c2
      by_cases hxy : x = y
      · subst hxy
        have HM2 := Lib.hid (same_snoc D E k HM.out (by rw [hx, hy]))
        clear hx hy hlt HM
        go_wp2_with fail
        go_quiet (fail)
        go_wp2_with fail
        go_roundw
        case rel => exact ⟨k + 1, by omega, by go_num, HM2.out, below_drewN HB.out _⟩
        case measure => simp [intOf]; omega
      · have hne : ¬ (x : Int) = (y : Int) := by omega
        have hSf : S = false := by
          cases hSS : S with
          | false => rfl
          | true => exact absurd (HS.out.1 hSS k hlt) (by rw [hx, hy]; exact hxy)
        subst hSf
        clear hx hy hlt HM hxy
        go_wp2_with fail
        go_quiet (fail)
        go_wp2_with fail
        go_ret
        exact ⟨rfl, below_drewN HB.out _⟩
    · have hki : ¬ (k : Int) < 10 := by omega
      obtain rfl : k = 10 := by omega
      have hSt : S = true := HS.out.2 HM.out
      subst hSt
      clear hlt
      go_wp2_with fail
      go_ret
      exact ⟨rfl, HB.out⟩
theorem pick_any (c : Int) (n : Nat) (hn : 0 < n) (hn2 : n ≤ 9223372036854775807) (h0 : -9223372036854775808 ≤ c) (h1 : c ≤ 9223372036854775807) :
    ∃ r : Nat, r < n ∧ ∀ w, Calls Tryd.prog 24 #[.int .i64 c, .int .i64 (n : Int)] w fun e w' => e = .returned (.int .i64 (r : Int)) ∧ w = w' := by
  have hne : ¬ (n : Int) = 0 := by omega
  by_cases hc : c < 0
  · obtain ⟨d, hd⟩ : ∃ d : Nat, -(c + 1) = (d : Int) := ⟨(-(c + 1)).toNat, by omega⟩
    have hd0 : (0 : Int) ≤ (d : Int) := by omega
    have hw1 : IntKind.i64.wrap (c + 1) = c + 1 := by rw [IntKind.wrap_i64]; omega
    have hw2 : IntKind.i64.wrap (-(c + 1)) = (d : Int) := by rw [IntKind.wrap_i64]; omega
    have hr : (d : Int) % (n : Int) = ((d % n : Nat) : Int) := by omega
    have hrl := Nat.mod_lt d hn
    obtain ⟨r, er⟩ : ∃ r, d % n = r := ⟨_, rfl⟩
    have htm : (d : Int).tmod (n : Int) = (r : Int) := by rw [Int.tmod_eq_emod_of_nonneg hd0, hr, er]
    rw [er] at hrl
    have hw3 : IntKind.i64.wrap (r : Int) = (r : Int) := by rw [IntKind.wrap_i64]; omega
    clear hr er
    refine ⟨r, hrl, fun w => ?_⟩
    go_enter Tryd.func24, Tryd.ntmps24
    go_wp2_with fail
    go_ret
    exact ⟨rfl, rfl⟩
  · obtain ⟨d, rfl⟩ : ∃ d : Nat, c = (d : Int) := ⟨c.toNat, by omega⟩
    have hd0 : (0 : Int) ≤ (d : Int) := by omega
    have hr : (d : Int) % (n : Int) = ((d % n : Nat) : Int) := by omega
    have hrl := Nat.mod_lt d hn
    obtain ⟨r, er⟩ : ∃ r, d % n = r := ⟨_, rfl⟩
    have htm : (d : Int).tmod (n : Int) = (r : Int) := by rw [Int.tmod_eq_emod_of_nonneg hd0, hr, er]
    rw [er] at hrl
    have hw3 : IntKind.i64.wrap (r : Int) = (r : Int) := by rw [IntKind.wrap_i64]; omega
    clear hr er
    refine ⟨r, hrl, fun w => ?_⟩
    go_enter Tryd.func24, Tryd.ntmps24
    go_wp2_with fail
    go_ret
    exact ⟨rfl, rfl⟩

end Go.Proofs.YtncimfiiknbcfaaDoor.Sp
