/- The statements of package trie: pick. -/
import Derived.Test.YtnkkckmejjcfkaaDoorGdA
import Derived.Test.YtnkkckmejjcfkaaDoorGdM
import Derived.BigQuiet
namespace Go.Proofs.YtnkkckmejjcfkaaDoor.Sp
open Go Go.RowKit

theorem tpick_any (c : Int) (n : Nat) (hn : 0 < n) (hn2 : n ≤ 9223372036854775807) (h0 : -9223372036854775808 ≤ c) (h1 : c ≤ 9223372036854775807) (w : World) :
    Calls Tryd.prog 29 #[.int .i64 c, .int .i64 (n : Int)] w fun e w' => e = .returned (.int .i64 (pickN c n : Int)) ∧ w = w' := by
  have hne : ¬ (n : Int) = 0 := by omega
  by_cases hc : c < 0
  · obtain ⟨d, hd⟩ : ∃ d : Nat, -(c + 1) = (d : Int) := ⟨(-(c + 1)).toNat, by omega⟩
    have hd0 : (0 : Int) ≤ (d : Int) := by omega
    have hw1 : IntKind.i64.wrap (c + 1) = c + 1 := by rw [IntKind.wrap_i64]; omega
    have hw2 : IntKind.i64.wrap (-(c + 1)) = (d : Int) := by rw [IntKind.wrap_i64]; omega
    have hr : (d : Int) % (n : Int) = ((d % n : Nat) : Int) := by omega
    have hrl := Nat.mod_lt d hn
    have hp : pickN c n = d % n := by unfold pickN; rw [if_pos hc, hd]; rfl
    rw [hp]
    obtain ⟨r, er⟩ : ∃ r, d % n = r := ⟨_, rfl⟩
    have htm : (d : Int).tmod (n : Int) = (r : Int) := by rw [Int.tmod_eq_emod_of_nonneg hd0, hr, er]
    rw [er] at hrl ⊢
    have hw3 : IntKind.i64.wrap (r : Int) = (r : Int) := by rw [IntKind.wrap_i64]; omega
    clear hr er hp
    go_enter Tryd.func29, Tryd.ntmps29
    go_wp2_with fail
    go_ret
    exact ⟨rfl, rfl⟩
  · obtain ⟨d, rfl⟩ : ∃ d : Nat, c = (d : Int) := ⟨c.toNat, by omega⟩
    have hd0 : (0 : Int) ≤ (d : Int) := by omega
    have hr : (d : Int) % (n : Int) = ((d % n : Nat) : Int) := by omega
    have hrl := Nat.mod_lt d hn
    have hp : pickN (d : Int) n = d % n := by unfold pickN; rw [if_neg hc]; rfl
    rw [hp]
    obtain ⟨r, er⟩ : ∃ r, d % n = r := ⟨_, rfl⟩
    have htm : (d : Int).tmod (n : Int) = (r : Int) := by rw [Int.tmod_eq_emod_of_nonneg hd0, hr, er]
    rw [er] at hrl ⊢
    have hw3 : IntKind.i64.wrap (r : Int) = (r : Int) := by rw [IntKind.wrap_i64]; omega
    clear hr er hp
    go_enter Tryd.func29, Tryd.ntmps29
    go_wp2_with fail
    go_ret
    exact ⟨rfl, rfl⟩
end Go.Proofs.YtnkkckmejjcfkaaDoor.Sp
