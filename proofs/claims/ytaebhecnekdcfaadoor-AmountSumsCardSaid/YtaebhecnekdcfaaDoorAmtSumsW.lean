/- The walk of AmountSums. -/
import Derived.Test.YtaebhecnekdcfaaDoorAmtAwake
namespace Go.Proofs.YtaebhecnekdcfaaDoor.Sp
open Go Go.RowKit

theorem add_at (a b S : Nat) (h : a + b = S) (hS : S < 18446744073709551616) (w : World) :
    Calls Tryd.prog 12 #[.int .u64 (a : Int), .int .u64 (b : Int)] w fun e w' => e = .returned (.tuple #[.int .u64 (S : Int), .int .i64 0]) ∧ w = w' := by
  have h1 := add_any a b (by omega) (by omega) w
  rw [addN, addE, h, if_pos hS, if_pos hS] at h1
  exact h1
theorem add_over (a b : Nat) (h : 18446744073709551616 ≤ a + b) (ha : a < 18446744073709551616) (hb : b < 18446744073709551616) (w : World) :
    Calls Tryd.prog 12 #[.int .u64 (a : Int), .int .u64 (b : Int)] w fun e w' => e = .returned (.tuple #[.int .u64 0, .int .i64 31]) ∧ w = w' := by
  have h1 := add_any a b ha hb w
  rw [addN, addE, if_neg (by omega), if_neg (by omega)] at h1
  exact h1
theorem sub_at (a b D : Nat) (h : D + b = a) (ha : a < 18446744073709551616) (w : World) :
    Calls Tryd.prog 14 #[.int .u64 (a : Int), .int .u64 (b : Int)] w fun e w' => e = .returned (.tuple #[.int .u64 (D : Int), .int .i64 0]) ∧ w = w' := by
  have h1 := sub_any a b ha (by omega) w
  rw [subN, subE, if_pos (by omega), if_pos (by omega), show a - b = D by omega] at h1
  exact h1
theorem sub_no (a b : Nat) (h : a < b) (hb : b < 18446744073709551616) (w : World) :
    Calls Tryd.prog 14 #[.int .u64 (a : Int), .int .u64 (b : Int)] w fun e w' => e = .returned (.tuple #[.int .u64 0, .int .i64 31]) ∧ w = w' := by
  have h1 := sub_any a b (by omega) hb w
  rw [subN, subE, if_neg (by omega), if_neg (by omega)] at h1
  exact h1

set_option maxRecDepth 100000 in
set_option maxHeartbeats 4000000 in
theorem sums_law (a b c : Nat) (ha : a < 18446744073709551616) (hb : b < 18446744073709551616) (hc : c < 18446744073709551616) (w : World) (hT : Tens w) :
    Calls Tryd.prog 5 #[.int .u64 (a : Int), .int .u64 (b : Int), .int .u64 (c : Int)] w fun e w' => e = .returned (.bool true) ∧ Below w.heap.size w w' := by
  have HT := Lib.hid hT
  clear hT
  go_enter Tryd.func5, Tryd.ntmps5
  go_wp2_with fail
  refine (awake_any w HT.out).mono ?_
  rintro e w1 ⟨rfl, h1⟩
  have B1 := Lib.hid h1
  clear h1
  go_wp2_with fail
  by_cases hS : a + b < 18446744073709551616
  · obtain ⟨S, eS⟩ : ∃ S, a + b = S := ⟨_, rfl⟩
    have haS : (a : Int) ≤ (S : Int) := by omega
    rw [eS] at hS
    have HS := Lib.hid eS
    refine (add_at a b S eS hS w1).mono ?_
    rintro e w' ⟨rfl, rfl⟩
    clear eS
    go_wp2_with fail
    refine (add_at b a S (by rw [Nat.add_comm]; exact HS.out) hS w1).mono ?_
    rintro e w' ⟨rfl, rfl⟩
    go_wp2_with fail
    rcases Nat.lt_or_ge a b with hab | hab
    · refine (sub_no a b hab hb w1).mono ?_
      rintro e w' ⟨rfl, rfl⟩
      have hge : ¬ (b : Int) ≤ (a : Int) := by omega
      clear hab
      go_wp2_with fail
      clear hge
      all_goals
        refine (sub_at S b a HS.out hS w1).mono ?_
        rintro e w' ⟨rfl, rfl⟩
        go_wp2_with fail
        rcases Nat.lt_or_ge (S + c) 18446744073709551616 with hSc | hSc
        · obtain ⟨R, eR⟩ : ∃ R, S + c = R := ⟨_, rfl⟩
          obtain ⟨Q, eQ⟩ : ∃ Q, b + c = Q := ⟨_, rfl⟩
          have HR := Lib.hid (And.intro eR eQ)
          have hR : R < 18446744073709551616 := by omega
          have hQ : Q < 18446744073709551616 := by have := HS.out; omega
          have HA := Lib.hid (show a + Q = R by have := HS.out; omega)
          clear eR eQ hSc
          refine (add_at S c R HR.out.1 hR w1).mono ?_
          rintro e w' ⟨rfl, rfl⟩
          go_wp2_with fail
          refine (add_at b c Q HR.out.2 hQ w1).mono ?_
          rintro e w' ⟨rfl, rfl⟩
          go_wp2_with fail
          refine (add_at a Q R HA.out hR w1).mono ?_
          rintro e w' ⟨rfl, rfl⟩
          go_wp2_with fail
          go_ret
          exact ⟨rfl, B1.out⟩
        · obtain ⟨Q, eQ⟩ : ∃ Q, addN b c = Q := ⟨_, rfl⟩
          obtain ⟨J, eJ⟩ : ∃ J, addE b c = J := ⟨_, rfl⟩
          obtain ⟨R, eR⟩ : ∃ R, addN a Q = R := ⟨_, rfl⟩
          obtain ⟨K, eK⟩ : ∃ K, addE a Q = K := ⟨_, rfl⟩
          have hQ : Q < 18446744073709551616 := by rw [← eQ, addN]; split <;> omega
          have Hbc := Lib.hid (add_any b c hb hc w1)
          rw [eQ, eJ] at Hbc
          have Haq := Lib.hid (add_any a Q ha hQ w1)
          rw [eR, eK] at Haq
          have Hov := Lib.hid hSc
          clear eQ eJ eR eK hSc
          refine (add_over S c Hov.out hS hc w1).mono ?_
          rintro e w' ⟨rfl, rfl⟩
          go_wp2_with fail
          refine Hbc.out.mono ?_
          rintro e w' ⟨rfl, rfl⟩
          go_wp2_with fail
          refine Haq.out.mono ?_
          rintro e w' ⟨rfl, rfl⟩
          go_wp2_with fail
          go_ret
          exact ⟨rfl, B1.out⟩
    · obtain ⟨D, eD⟩ : ∃ D, D + b = a := ⟨a - b, by omega⟩
      have HD := Lib.hid eD
      refine (sub_at a b D eD ha w1).mono ?_
      rintro e w' ⟨rfl, rfl⟩
      have hge : (b : Int) ≤ (a : Int) := by omega
      clear hab eD
      go_wp2_with fail
      refine (add_at D b a HD.out ha w1).mono ?_
      rintro e w' ⟨rfl, rfl⟩
      clear hge
      go_wp2_with fail
      all_goals
        refine (sub_at S b a HS.out hS w1).mono ?_
        rintro e w' ⟨rfl, rfl⟩
        go_wp2_with fail
        rcases Nat.lt_or_ge (S + c) 18446744073709551616 with hSc | hSc
        · obtain ⟨R, eR⟩ : ∃ R, S + c = R := ⟨_, rfl⟩
          obtain ⟨Q, eQ⟩ : ∃ Q, b + c = Q := ⟨_, rfl⟩
          have HR := Lib.hid (And.intro eR eQ)
          have hR : R < 18446744073709551616 := by omega
          have hQ : Q < 18446744073709551616 := by have := HS.out; omega
          have HA := Lib.hid (show a + Q = R by have := HS.out; omega)
          clear eR eQ hSc
          refine (add_at S c R HR.out.1 hR w1).mono ?_
          rintro e w' ⟨rfl, rfl⟩
          go_wp2_with fail
          refine (add_at b c Q HR.out.2 hQ w1).mono ?_
          rintro e w' ⟨rfl, rfl⟩
          go_wp2_with fail
          refine (add_at a Q R HA.out hR w1).mono ?_
          rintro e w' ⟨rfl, rfl⟩
          go_wp2_with fail
          go_ret
          exact ⟨rfl, B1.out⟩
        · obtain ⟨Q, eQ⟩ : ∃ Q, addN b c = Q := ⟨_, rfl⟩
          obtain ⟨J, eJ⟩ : ∃ J, addE b c = J := ⟨_, rfl⟩
          obtain ⟨R, eR⟩ : ∃ R, addN a Q = R := ⟨_, rfl⟩
          obtain ⟨K, eK⟩ : ∃ K, addE a Q = K := ⟨_, rfl⟩
          have hQ : Q < 18446744073709551616 := by rw [← eQ, addN]; split <;> omega
          have Hbc := Lib.hid (add_any b c hb hc w1)
          rw [eQ, eJ] at Hbc
          have Haq := Lib.hid (add_any a Q ha hQ w1)
          rw [eR, eK] at Haq
          have Hov := Lib.hid hSc
          clear eQ eJ eR eK hSc
          refine (add_over S c Hov.out hS hc w1).mono ?_
          rintro e w' ⟨rfl, rfl⟩
          go_wp2_with fail
          refine Hbc.out.mono ?_
          rintro e w' ⟨rfl, rfl⟩
          go_wp2_with fail
          refine Haq.out.mono ?_
          rintro e w' ⟨rfl, rfl⟩
          go_wp2_with fail
          go_ret
          exact ⟨rfl, B1.out⟩
  · have HO := Lib.hid (show 18446744073709551616 ≤ a + b by omega)
    clear hS
    refine (add_over a b HO.out ha hb w1).mono ?_
    rintro e w' ⟨rfl, rfl⟩
    go_wp2_with fail
    refine (add_over b a (by rw [Nat.add_comm]; exact HO.out) hb ha w1).mono ?_
    rintro e w' ⟨rfl, rfl⟩
    go_wp2_with fail
    rcases Nat.lt_or_ge a b with hab | hab
    · refine (sub_no a b hab hb w1).mono ?_
      rintro e w' ⟨rfl, rfl⟩
      have hge : ¬ (b : Int) ≤ (a : Int) := by omega
      clear hab
      go_wp2_with fail
      go_ret
      exact ⟨rfl, B1.out⟩
    · obtain ⟨D, eD⟩ : ∃ D, D + b = a := ⟨a - b, by omega⟩
      have HD := Lib.hid eD
      refine (sub_at a b D eD ha w1).mono ?_
      rintro e w' ⟨rfl, rfl⟩
      have hge : (b : Int) ≤ (a : Int) := by omega
      clear hab eD
      go_wp2_with fail
      refine (add_at D b a HD.out ha w1).mono ?_
      rintro e w' ⟨rfl, rfl⟩
      go_wp2_with fail
      go_ret
      exact ⟨rfl, B1.out⟩
end Go.Proofs.YtaebhecnekdcfaaDoor.Sp
