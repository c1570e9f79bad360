/- The statements of package amount: their first calls. -/
import Derived.Test.YtaebhecnekdcfaaDoorAmtStr
import Derived.Test.YtaebhecnekdcfaaDoorAmtAdd
namespace Go.Proofs.YtaebhecnekdcfaaDoor.Sp
open Go Go.RowKit

theorem parse_at (t : ByteArray) (N : Nat) (E : Int) (h : parN t.data.toList = N ∧ parE t.data.toList = E) (ht : t.size ≤ 9223372036854775807) (w : World) :
    Calls Tryd.prog 10 #[.string t] w fun e w' => e = .returned (.tuple #[.int .u64 (N : Int), .int .i64 E]) ∧ w = w' := by
  obtain ⟨rfl, rfl⟩ := h
  exact parse_any t ht w
theorem print_at (n : Nat) (t : ByteArray) (h : ⟨(dec n).toArray⟩ = t) (hn : n < 18446744073709551616) (w : World) (hT : Tens w) :
    Calls Tryd.prog 16 #[.int .u64 (n : Int)] w fun e w' => e = .returned (.string t) ∧ Below w.heap.size w w' := by
  subst h
  exact print_any n hn w hT

theorem a_seven : parN [48, 48, 55] = 0 ∧ parE [48, 48, 55] = 30 := by decide +kernel
theorem a_over : parN [49, 56, 52, 52, 54, 55, 52, 52, 48, 55, 51, 55, 48, 57, 53, 53, 49, 54, 49, 54] = 0 ∧ parE [49, 56, 52, 52, 54, 55, 52, 52, 48, 55, 51, 55, 48, 57, 53, 53, 49, 54, 49, 54] = 31 := by decide +kernel
theorem a_top : parN [49, 56, 52, 52, 54, 55, 52, 52, 48, 55, 51, 55, 48, 57, 53, 53, 49, 54, 49, 53] = 18446744073709551615 ∧ parE [49, 56, 52, 52, 54, 55, 52, 52, 48, 55, 51, 55, 48, 57, 53, 53, 49, 54, 49, 53] = 0 := by decide +kernel
theorem a_dec : dec 120 = [49, 50, 48] := by
  rw [dec_ge _ (by decide), dec_ge _ (by decide), dec_lt _ (by decide)]; rfl

set_option maxHeartbeats 1000000 in
theorem awake_any (w : World) (hT : Tens w) :
    Calls Tryd.prog 9 #[] w fun e w' => e = .returned (.bool true) ∧ Below w.heap.size w w' := by
  have HT := Lib.hid hT
  clear hT
  go_enter Tryd.func9, Tryd.ntmps9
  go_wp2_with fail
  refine (parse_at ⟨#[48, 48, 55]⟩ 0 30 a_seven (by decide) w).mono ?_
  rintro e w' ⟨rfl, rfl⟩
  go_wp2_with fail
  refine (parse_at ⟨#[49, 56, 52, 52, 54, 55, 52, 52, 48, 55, 51, 55, 48, 57, 53, 53, 49, 54, 49, 54]⟩ 0 31 a_over (by decide) w).mono ?_
  rintro e w' ⟨rfl, rfl⟩
  go_wp2_with fail
  refine (parse_at ⟨#[49, 56, 52, 52, 54, 55, 52, 52, 48, 55, 51, 55, 48, 57, 53, 53, 49, 54, 49, 53]⟩ 18446744073709551615 0 a_top (by decide) w).mono ?_
  rintro e w' ⟨rfl, rfl⟩
  go_wp2_with fail
  refine (print_at 120 ⟨#[49, 50, 48]⟩ (by rw [a_dec]) (by omega) w HT.out).mono ?_
  rintro e w' ⟨rfl, hb⟩
  have HB := Lib.hid hb
  clear hb
  go_wp2_with fail
  go_ret
  exact ⟨rfl, HB.out⟩
end Go.Proofs.YtaebhecnekdcfaaDoor.Sp
