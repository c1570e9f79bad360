/- The statements of package tree: Texts, pick. -/
import Derived.Test.YtdkjlijmejleoaaDoorTreB
namespace Go.Proofs.YtdkjlijmejleoaaDoor.Sp
open Go Go.RowKit

set_option maxHeartbeats 1000000 in
theorem texts_any (A B : List ByteArray) (a b : Option Addr) (na nb ca cb : Nat) (w : World) (h1 : Strs w a na A) (h2 : Strs w b nb B) (hn : na ≤ 9223372036854775807) (S : Bool) (hS : S = true ↔ A = B) :
    Calls Tryd.prog 15 #[.slice a na ca, .slice b nb cb] w fun e w' => e = .returned (.bool S) ∧ Below w.heap.size w w' := by
  have l1 := h1.1
  have l2 := h2.1
  have H1 := Lib.hid h1
  have H2 := Lib.hid h2
  have HS := Lib.hid hS
  clear h1 h2 hS
  by_cases hl : na = nb
  · subst hl
    go_enter Tryd.func15, Tryd.ntmps15
    go_wp2_with fail
    go_loopw [5] (fun x wr => ∃ k : Nat, k ≤ na ∧ x = .int .i64 (k : Int) ∧ (∀ j, j < k → A.getD j ByteArray.empty = B.getD j ByteArray.empty) ∧ Below w.heap.size w wr) (fun x _ => na - (intOf x).toNat)
    case atStart => exact ⟨0, by omega, rfl, fun j hj => by omega, Below.refl _ _⟩
    case round =>
      obtain ⟨k, hk, rfl, hsame, hbel⟩ := hrel
      have HM := Lib.hid hsame
      have HB := Lib.hid hbel
      clear hsame hbel
      by_cases hlt : k < na
      · have hki : (k : Int) < (na : Int) := by omega
        have hk0 : (0 : Int) ≤ (k : Int) := by omega
        obtain ⟨ba, oa, rfl, c1⟩ := H1.out.at_ HB.out hlt
        obtain ⟨bb, ob, rfl, c2⟩ := H2.out.at_ HB.out hlt
        obtain ⟨x, hx⟩ : ∃ x, A.getD k ByteArray.empty = x := ⟨_, rfl⟩
        obtain ⟨y, hy⟩ : ∃ y, B.getD k ByteArray.empty = y := ⟨_, rfl⟩
        simp only [hx] at c1
        simp only [hy] at c2
        by_cases hxy : x = y
        · subst hxy
          have HM2 := Lib.hid (show ∀ j, j < k + 1 → A.getD j ByteArray.empty = B.getD j ByteArray.empty from fun j hj => by
            rcases Nat.lt_or_ge j k with h | h
            · exact HM.out j h
            · obtain rfl : j = k := by omega
              rw [hx, hy])
          have hself := text_self x
          clear hx hy HM
          go_wp2_with fail
          go_quiet (fail)
          go_wp2_with fail
          go_roundw
          case rel => exact ⟨k + 1, by omega, by go_num, HM2.out, below_drewN HB.out _⟩
          case measure => simp [intOf]; omega
        · have hne := text_ne x y hxy
          have hSf : S = false := by
            cases hSS : S with
            | false => rfl
            | true => exact absurd (by rw [← hx, ← hy, HS.out.1 hSS]) hxy
          subst hSf
          clear hx hy hlt HM
          go_wp2_with fail
          go_quiet (fail)
          go_wp2_with fail
          go_ret
          exact ⟨rfl, below_drewN HB.out _⟩
      · have hki : ¬ (k : Int) < (na : Int) := by omega
        have hSt : S = true := HS.out.2 (texts_ext A B na l1 l2 fun j hj => HM.out j (by omega))
        subst hSt
        clear hlt
        go_wp2_with fail
        go_ret
        exact ⟨rfl, HB.out⟩
  · have hli : ¬ (na : Int) = (nb : Int) := by omega
    have hSf : S = false := by
      cases hSS : S with
      | false => rfl
      | true => exact absurd (by rw [← l1, ← l2, HS.out.1 hSS]) hl
    subst hSf
    clear hl
    go_enter Tryd.func15, Tryd.ntmps15
    go_wp2_with fail
    go_ret
    exact ⟨rfl, Below.refl _ _⟩

theorem pick_any (c : Int) (n : Nat) (hn : 0 < n) (hn2 : n ≤ 9223372036854775807) (h0 : -9223372036854775808 ≤ c) (h1 : c ≤ 9223372036854775807) :
    ∃ r : Nat, r < n ∧ ∀ w, Calls Tryd.prog 25 #[.int .i64 c, .int .i64 (n : Int)] w fun e w' => e = .returned (.int .i64 (r : Int)) ∧ w = w' := by
  have hne : ¬ (n : Int) = 0 := by omega
  by_cases hc : c < 0
  · obtain ⟨d, hd⟩ : ∃ d : Nat, -(c + 1) = (d : Int) := ⟨(-(c + 1)).toNat, by omega⟩
    have hd0 : (0 : Int) ≤ (d : Int) := by omega
    have hw1 : IntKind.i64.wrap (c + 1) = c + 1 := by rw [IntKind.wrap_i64]; omega
    have hw2 : IntKind.i64.wrap (-(c + 1)) = (d : Int) := by rw [IntKind.wrap_i64]; omega
    have hr : (d : Int) % (n : Int) = ((d % n : Nat) : Int) := by omega
    have hrl := Nat.mod_lt d hn
    obtain ⟨r, er⟩ : ∃ r, d % n = r := ⟨_, rfl⟩
    have htm : (d : Int).tmod (n : Int) = (r : Int) := by rw [Int.tmod_eq_emod_of_nonneg hd0, hr, er]
    rw [er] at hrl
    have hw3 : IntKind.i64.wrap (r : Int) = (r : Int) := by rw [IntKind.wrap_i64]; omega
    clear hr er
    refine ⟨r, hrl, fun w => ?_⟩
    go_enter Tryd.func25, Tryd.ntmps25
    go_wp2_with fail
    go_ret
    exact ⟨rfl, rfl⟩
  · obtain ⟨d, rfl⟩ : ∃ d : Nat, c = (d : Int) := ⟨c.toNat, by omega⟩
    have hd0 : (0 : Int) ≤ (d : Int) := by omega
    have hr : (d : Int) % (n : Int) = ((d % n : Nat) : Int) := by omega
    have hrl := Nat.mod_lt d hn
    obtain ⟨r, er⟩ : ∃ r, d % n = r := ⟨_, rfl⟩
    have htm : (d : Int).tmod (n : Int) = (r : Int) := by rw [Int.tmod_eq_emod_of_nonneg hd0, hr, er]
    rw [er] at hrl
    have hw3 : IntKind.i64.wrap (r : Int) = (r : Int) := by rw [IntKind.wrap_i64]; omega
    clear hr er
    refine ⟨r, hrl, fun w => ?_⟩
    go_enter Tryd.func25, Tryd.ntmps25
    go_wp2_with fail
    go_ret
    exact ⟨rfl, rfl⟩

end Go.Proofs.YtdkjlijmejleoaaDoor.Sp
