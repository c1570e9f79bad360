/- Package amount's Add and Sub: the sum, or the error, where it would not fit; the difference, likewise. -/
import Derived.Test.YtaebhecnekdcfaaDoorMem
import Derived.Test.YtaebhecnekdcfaaDoorAmtShelf
import Derived.Test.YtaebhecnekdcfaaDoorAmtParse
import Derived.Shelf.Spec.BitsCarry
namespace Go.Proofs.YtaebhecnekdcfaaDoor.Sp
open Go Go.RowKit

def addN (a b : Nat) : Nat := if a + b < 18446744073709551616 then a + b else 0
def addE (a b : Nat) : Int := if a + b < 18446744073709551616 then 0 else 31
def subN (a b : Nat) : Nat := if b ≤ a then a - b else 0
def subE (a b : Nat) : Int := if b ≤ a then 0 else 31

theorem add64_in (x y S : Nat) (h : x + y = S) (hS : S < 18446744073709551616) (w : World) :
    (callFunc 21 #[.int .u64 (x : Int), .int .u64 (y : Int), .int .u64 0]).run Tryd.prog w = .ok (.value (.tuple #[.int .u64 (S : Int), .int .u64 0])) w := by
  have h1 := Any7.bits_Add64 lays25 x y 0 (by omega) w
  rw [Nat.add_zero, h, Nat.mod_eq_of_lt hS, Nat.div_eq_of_lt hS] at h1
  exact h1
theorem add64_out (x y S : Nat) (h : (x + y) % 18446744073709551616 = S) (h0 : 18446744073709551616 ≤ x + y) (hx : x < 18446744073709551616) (hy : y < 18446744073709551616) (w : World) :
    (callFunc 21 #[.int .u64 (x : Int), .int .u64 (y : Int), .int .u64 0]).run Tryd.prog w = .ok (.value (.tuple #[.int .u64 (S : Int), .int .u64 1])) w := by
  have h1 := Any7.bits_Add64 lays25 x y 0 (by omega) w
  rw [Nat.add_zero, h, show (x + y) / 18446744073709551616 = 1 by omega] at h1
  exact h1
theorem sub64_in (x y S : Nat) (h : x - y = S) (hS : y ≤ x) (hx : x < 18446744073709551616) (w : World) :
    (callFunc 22 #[.int .u64 (x : Int), .int .u64 (y : Int), .int .u64 0]).run Tryd.prog w = .ok (.value (.tuple #[.int .u64 (S : Int), .int .u64 0])) w := by
  have h1 := Any7.bits_Sub64 lays26 x y 0 (by omega) w
  rw [Nat.sub_zero, show (x + 18446744073709551616 - y) % 18446744073709551616 = S by omega, if_neg (by omega)] at h1
  exact h1
theorem sub64_out (x y S : Nat) (h : (x + 18446744073709551616 - y) % 18446744073709551616 = S) (hS : x < y) (w : World) :
    (callFunc 22 #[.int .u64 (x : Int), .int .u64 (y : Int), .int .u64 0]).run Tryd.prog w = .ok (.value (.tuple #[.int .u64 (S : Int), .int .u64 1])) w := by
  have h1 := Any7.bits_Sub64 lays26 x y 0 (by omega) w
  rw [Nat.sub_zero, h, if_pos (by omega)] at h1
  exact h1

theorem inBounds_ok (n : Nat) (w : World) :
    Calls Tryd.prog 20 #[.int .u64 (n : Int), .int .u64 0] w fun e w' => e = .returned (.tuple #[.int .u64 (n : Int), .int .i64 0]) ∧ w = w' := by
  go_enter Tryd.func20, Tryd.ntmps20
  go_wp2_with fail
  go_ret2
  exact ⟨rfl, rfl⟩
theorem inBounds_no (n : Nat) (w : World) :
    Calls Tryd.prog 20 #[.int .u64 (n : Int), .int .u64 1] w fun e w' => e = .returned (.tuple #[.int .u64 0, .int .i64 31]) ∧ w = w' := by
  go_enter Tryd.func20, Tryd.ntmps20
  go_wp2_with fail
  go_ret2
  exact ⟨rfl, rfl⟩

theorem add_any (a b : Nat) (ha : a < 18446744073709551616) (hb : b < 18446744073709551616) (w : World) :
    Calls Tryd.prog 12 #[.int .u64 (a : Int), .int .u64 (b : Int)] w fun e w' => e = .returned (.tuple #[.int .u64 (addN a b : Int), .int .i64 (addE a b)]) ∧ w = w' := by
  by_cases h : a + b < 18446744073709551616
  · obtain ⟨S, hS⟩ : ∃ S, a + b = S := ⟨_, rfl⟩
    have hSl : S < 18446744073709551616 := by omega
    have hr := add64_in a b S hS hSl
    have H := Lib.hid (show addN a b = S ∧ addE a b = 0 from ⟨by rw [addN, if_pos h, hS], by rw [addE, if_pos h]⟩)
    clear h hS hSl
    go_enter Tryd.func12, Tryd.ntmps12
    go_wp2_with (first | (go_at_call 20; refine (inBounds_ok S w).mono ?_; rintro e w' ⟨rfl, rfl⟩))
    go_ret2
    exact ⟨ret_pair H.out.1.symm H.out.2.symm, rfl⟩
  · obtain ⟨S, hS⟩ : ∃ S, (a + b) % 18446744073709551616 = S := ⟨_, rfl⟩
    have hr := add64_out a b S hS (by omega) ha hb
    have H := Lib.hid (show addN a b = 0 ∧ addE a b = 31 from ⟨by rw [addN, if_neg h], by rw [addE, if_neg h]⟩)
    clear h hS
    go_enter Tryd.func12, Tryd.ntmps12
    go_wp2_with (first | (go_at_call 20; refine (inBounds_no S w).mono ?_; rintro e w' ⟨rfl, rfl⟩))
    go_ret2
    exact ⟨ret_pair (a := 0) H.out.1.symm H.out.2.symm, rfl⟩

theorem sub_any (a b : Nat) (ha : a < 18446744073709551616) (hb : b < 18446744073709551616) (w : World) :
    Calls Tryd.prog 14 #[.int .u64 (a : Int), .int .u64 (b : Int)] w fun e w' => e = .returned (.tuple #[.int .u64 (subN a b : Int), .int .i64 (subE a b)]) ∧ w = w' := by
  by_cases h : b ≤ a
  · obtain ⟨S, hS⟩ : ∃ S, a - b = S := ⟨_, rfl⟩
    have hSl : S < 18446744073709551616 := by omega
    have hr := sub64_in a b S hS h ha
    have H := Lib.hid (show subN a b = S ∧ subE a b = 0 from ⟨by rw [subN, if_pos h, hS], by rw [subE, if_pos h]⟩)
    clear h hS hSl
    go_enter Tryd.func14, Tryd.ntmps14
    go_wp2_with (first | (go_at_call 20; refine (inBounds_ok S w).mono ?_; rintro e w' ⟨rfl, rfl⟩))
    go_ret2
    exact ⟨ret_pair H.out.1.symm H.out.2.symm, rfl⟩
  · obtain ⟨S, hS⟩ : ∃ S, (a + 18446744073709551616 - b) % 18446744073709551616 = S := ⟨_, rfl⟩
    have hr := sub64_out a b S hS (by omega)
    have H := Lib.hid (show subN a b = 0 ∧ subE a b = 31 from ⟨by rw [subN, if_neg h], by rw [subE, if_neg h]⟩)
    clear h hS
    go_enter Tryd.func14, Tryd.ntmps14
    go_wp2_with (first | (go_at_call 20; refine (inBounds_no S w).mono ?_; rintro e w' ⟨rfl, rfl⟩))
    go_ret2
    exact ⟨ret_pair (a := 0) H.out.1.symm H.out.2.symm, rfl⟩
end Go.Proofs.YtaebhecnekdcfaaDoor.Sp
