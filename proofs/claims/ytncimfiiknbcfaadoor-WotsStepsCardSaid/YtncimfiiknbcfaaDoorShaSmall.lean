/- Package sha: contracts of the small functions on words. -/
import Derived.Test.YtncimfiiknbcfaaDoorShaWords
import Derived.Test.YtncimfiiknbcfaaDoorMem
import Derived.Outline
import Derived.Lib.Hide
import Derived.Deep.QuietTactic
import Derived.BigQuiet
namespace Go.Proofs.YtncimfiiknbcfaaDoor.Sp
open Go Go.RowKit

attribute [local go_sem] add_U addm_U xor_U and_U or_U notm_U shr3_U shr10_U

theorem ret_u32 {a b : Int} (h : a = b) : Ending.returned (.int .u32 a) = .returned (.int .u32 b) := by rw [h]

theorem turn_count (n : Nat) (h1 : 1 ≤ n) (h2 : n ≤ 31) : bits .and .u64 (IntKind.u64.wrap (-(n : Int))) 31 = 32 - (n : Int) := by
  have key : ∀ m : Fin 32, 1 ≤ m.val → bits .and .u64 (IntKind.u64.wrap (-(m.val : Int))) 31 = 32 - (m.val : Int) := by decide +kernel
  exact key ⟨n, by omega⟩ h1
theorem rotr_U (x : W) (n : Nat) (h2 : n ≤ 31) : bits .or .u32 (U x * 2 ^ (32 - n) % (4294967296 : Int)) (U x / 2 ^ (32 - (32 - n))) = U (rotr x n) := by
  have e2 : 32 - (32 - n) = n := by omega
  rw [e2, shlm_U, shr_U, or_U]; unfold rotr; rw [BitVec.or_comm]

set_option maxHeartbeats 400000 in
theorem right_any (x : W) (n : Nat) (h1 : 1 ≤ n) (h2 : n ≤ 31) (w : World) :
    Calls Tryd.prog 76 #[.int .u32 (U x), .int .i64 (n : Int)] w fun e w' => e = .returned (.int .u32 (U (rotr x n))) ∧ w = w' := by
  have hc := turn_count n h1 h2
  go_enter Tryd.func76, Tryd.ntmps76
  go_wp2
  go_ret
  exact ⟨ret_u32 (rotr_U x n h2), rfl⟩

set_option maxHeartbeats 400000 in
theorem choose_any (x y z : W) (w : World) :
    Calls Tryd.prog 70 #[.int .u32 (U x), .int .u32 (U y), .int .u32 (U z)] w fun e w' => e = .returned (.int .u32 (U (ch x y z))) ∧ w = w' := by
  go_enter Tryd.func70, Tryd.ntmps70
  go_wp2
  all_goals go_ret
  all_goals exact ⟨rfl, rfl⟩

set_option maxHeartbeats 400000 in
theorem majority_any (x y z : W) (w : World) :
    Calls Tryd.prog 72 #[.int .u32 (U x), .int .u32 (U y), .int .u32 (U z)] w fun e w' => e = .returned (.int .u32 (U (maj x y z))) ∧ w = w' := by
  go_enter Tryd.func72, Tryd.ntmps72
  go_wp2
  go_ret
  exact ⟨rfl, rfl⟩

set_option maxHeartbeats 400000 in
theorem smallSigma0_any (x : W) (w : World) :
    Calls Tryd.prog 75 #[.int .u32 (U x)] w fun e w' => e = .returned (.int .u32 (U (ss0 x))) ∧ w = w' := by
  go_enter Tryd.func75, Tryd.ntmps75
  go_wp2_with fail
  refine (right_any x 7 (by decide) (by decide) _).mono ?_; rintro e w' ⟨rfl, rfl⟩
  go_wp2_with fail
  refine (right_any x 18 (by decide) (by decide) _).mono ?_; rintro e w' ⟨rfl, rfl⟩
  go_wp2_with fail
  go_ret
  exact ⟨rfl, rfl⟩

set_option maxHeartbeats 400000 in
theorem smallSigma1_any (x : W) (w : World) :
    Calls Tryd.prog 74 #[.int .u32 (U x)] w fun e w' => e = .returned (.int .u32 (U (ss1 x))) ∧ w = w' := by
  go_enter Tryd.func74, Tryd.ntmps74
  go_wp2_with fail
  refine (right_any x 17 (by decide) (by decide) _).mono ?_; rintro e w' ⟨rfl, rfl⟩
  go_wp2_with fail
  refine (right_any x 19 (by decide) (by decide) _).mono ?_; rintro e w' ⟨rfl, rfl⟩
  go_wp2_with fail
  go_ret
  exact ⟨rfl, rfl⟩

set_option maxHeartbeats 400000 in
theorem bigSigma0_any (x : W) (w : World) :
    Calls Tryd.prog 71 #[.int .u32 (U x)] w fun e w' => e = .returned (.int .u32 (U (bs0 x))) ∧ w = w' := by
  go_enter Tryd.func71, Tryd.ntmps71
  go_wp2_with fail
  refine (right_any x 2 (by decide) (by decide) _).mono ?_; rintro e w' ⟨rfl, rfl⟩
  go_wp2_with fail
  refine (right_any x 13 (by decide) (by decide) _).mono ?_; rintro e w' ⟨rfl, rfl⟩
  go_wp2_with fail
  refine (right_any x 22 (by decide) (by decide) _).mono ?_; rintro e w' ⟨rfl, rfl⟩
  go_wp2_with fail
  go_ret
  exact ⟨rfl, rfl⟩

set_option maxHeartbeats 400000 in
theorem bigSigma1_any (x : W) (w : World) :
    Calls Tryd.prog 69 #[.int .u32 (U x)] w fun e w' => e = .returned (.int .u32 (U (bs1 x))) ∧ w = w' := by
  go_enter Tryd.func69, Tryd.ntmps69
  go_wp2_with fail
  refine (right_any x 6 (by decide) (by decide) _).mono ?_; rintro e w' ⟨rfl, rfl⟩
  go_wp2_with fail
  refine (right_any x 11 (by decide) (by decide) _).mono ?_; rintro e w' ⟨rfl, rfl⟩
  go_wp2_with fail
  refine (right_any x 25 (by decide) (by decide) _).mono ?_; rintro e w' ⟨rfl, rfl⟩
  go_wp2_with fail
  go_ret
  exact ⟨rfl, rfl⟩


/-- Four bytes of a text as a word. -/
theorem byteW_U (b : UInt8) : (b.toNat : Int) = U (byteW b) := by
  unfold U byteW; rw [BitVec.toNat_ofNat]; have := b.toNat_lt; omega

theorem byte_wrap (b : UInt8) : IntKind.u32.wrap (b.toNat : Int) = U (byteW b) := by rw [wrap_u32_nat]; rfl
theorem at_sum (i : Nat) (k : Nat) (h : 4 * i + k ≤ 9223372036854775807) : IntKind.i64.wrap ((i : Int) * 4 + (k : Int)) = (i : Int) * 4 + (k : Int) ∧ 0 ≤ (i : Int) * 4 + (k : Int) ∧ ((i : Int) * 4 + (k : Int)).toNat = i * 4 + k :=
  ⟨by rw [IntKind.wrap_i64]; omega, by omega, by omega⟩

theorem word_bytes (s : ByteArray) (i : Nat) (h : 4 * i + 4 ≤ s.size) :
    bits .or .u32 (bits .or .u32 (bits .or .u32 (U (byteW (s[i * 4]'(by omega))) * 16777216 % (4294967296 : Int)) (U (byteW (s[i * 4 + 1]'(by omega))) * 65536 % (4294967296 : Int))) (U (byteW (s[i * 4 + 2]'(by omega))) * 256 % (4294967296 : Int)))
      (U (byteW (s[i * 4 + 3]'(by omega)))) = U (word s.data.toList i) := by
  rw [shl24_U, shl16_U, shl8_U, or_U, or_U, or_U]
  unfold word
  rw [getD_data s (i * 4) (4 * i) (by omega) (by omega), getD_data s (i * 4 + 1) (4 * i + 1) (by omega) (by omega), getD_data s (i * 4 + 2) (4 * i + 2) (by omega) (by omega), getD_data s (i * 4 + 3) (4 * i + 3) (by omega) (by omega)]

attribute [local go_sem] byte_wrap

set_option maxHeartbeats 1000000 in
theorem word_any (s : ByteArray) (i : Nat) (h : 4 * i + 4 ≤ s.size) (hs : s.size ≤ 9223372036854775807) (w : World) :
    Calls Tryd.prog 73 #[.string s, .int .i64 (i : Int)] w fun e w' => e = .returned (.int .u32 (U (word s.data.toList i))) ∧ ∃ n, w' = w.drewN n := by
  have hw0 : (i : Int) * 4 < (s.size : Int) := by omega
  have hw1 : (i : Int) * 4 + 1 < (s.size : Int) := by omega
  have hw2 : (i : Int) * 4 + 2 < (s.size : Int) := by omega
  have hw3 : (i : Int) * 4 + 3 < (s.size : Int) := by omega
  have g0 : 0 ≤ (i : Int) * 4 := by omega
  obtain ⟨a1, b1, c1⟩ := at_sum i 1 (by omega)
  obtain ⟨a2, b2, c2⟩ := at_sum i 2 (by omega)
  obtain ⟨a3, b3, c3⟩ := at_sum i 3 (by omega)
  have c0 : ((i : Int) * 4).toNat = i * 4 := by omega
  simp only [Int.cast_ofNat_Int] at a1 b1 c1 a2 b2 c2 a3 b3 c3
  go_enter Tryd.func73, Tryd.ntmps73
  go_wp2
  go_quiet (fail)
  go_wp2
  go_ret
  exact ⟨ret_u32 (word_bytes s i h), _, rfl⟩

end Go.Proofs.YtncimfiiknbcfaaDoor.Sp
