/- The walk of AmountTells. -/
import Derived.Test.YtaebhecnekdcfaaDoorAmtAwake
import Derived.Test.YtaebhecnekdcfaaDoorAmtQPar
namespace Go.Proofs.YtaebhecnekdcfaaDoor.Sp
open Go Go.RowKit

theorem qprint_at (n : Nat) (t : ByteArray) (h : ⟨(dec n).toArray⟩ = t) (hn : n < 18446744073709551616) (w : World) :
    Calls Tryd.prog 17 #[.int .u64 (n : Int)] w fun e w' => e = .returned (.string t) ∧ Below w.heap.size w w' := by
  subst h
  exact qprint_any n hn w

set_option maxRecDepth 100000 in
set_option maxHeartbeats 2000000 in
theorem tells_law (a b : Nat) (s : ByteArray) (ha : a < 18446744073709551616) (hb : b < 18446744073709551616) (hs : s.size ≤ 9223372036854775807) (w : World) (hT : Tens w) :
    Calls Tryd.prog 3 #[.int .u64 (a : Int), .int .u64 (b : Int), .string s] w fun e w' => e = .returned (.bool true) ∧ Below w.heap.size w w' := by
  obtain ⟨X, eX⟩ : ∃ X : ByteArray, ⟨(dec a).toArray⟩ = X := ⟨_, rfl⟩
  have HX := Lib.hid eX
  have HT := Lib.hid hT
  clear hT eX
  go_enter Tryd.func3, Tryd.ntmps3
  go_wp2_with fail
  refine (awake_any w HT.out).mono ?_
  rintro e w1 ⟨rfl, h1⟩
  have T1 := Lib.hid (tens_below HT.out h1)
  have B1 := Lib.hid h1
  clear h1
  go_wp2_with fail
  refine (parse_any s hs w1).mono ?_
  rintro e w' ⟨rfl, rfl⟩
  go_wp2_with fail
  refine (qparse_any s hs w1).mono ?_
  rintro e w' ⟨rfl, rfl⟩
  go_wp2_with fail
  refine (add_any a b ha hb w1).mono ?_
  rintro e w' ⟨rfl, rfl⟩
  go_wp2_with fail
  refine (qadd_any a b ha hb w1).mono ?_
  rintro e w' ⟨rfl, rfl⟩
  go_wp2_with fail
  refine (sub_any a b ha hb w1).mono ?_
  rintro e w' ⟨rfl, rfl⟩
  go_wp2_with fail
  refine (qsub_any a b ha hb w1).mono ?_
  rintro e w' ⟨rfl, rfl⟩
  go_wp2_with fail
  refine (print_at a X HX.out ha w1 T1.out).mono ?_
  rintro e w2 ⟨rfl, h2⟩
  have B2 := Lib.hid (B1.out.trans (h2.mono B1.out.size))
  clear h2
  go_wp2_with fail
  refine (qprint_at a X HX.out ha w2).mono ?_
  rintro e w3 ⟨rfl, h3⟩
  have B3 := Lib.hid (B2.out.trans (h3.mono B2.out.size))
  clear h3
  go_wp2_with fail
  go_ret
  exact ⟨rfl, B3.out⟩
end Go.Proofs.YtaebhecnekdcfaaDoor.Sp
