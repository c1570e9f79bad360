/- The walk of PathOthers. -/
import Derived.Test.YtakfplkdjapooaaDoorPthBackW
namespace Go.Proofs.YtakfplkdjapooaaDoor.Sp
open Go Go.RowKit

set_option maxRecDepth 100000 in
set_option maxHeartbeats 4000000 in
theorem others_law (K1 : Int) (a1 b1 : Nat) (K2 : Int) (a2 b2 : Nat) (hK1 : -9223372036854775808 ≤ K1 ∧ K1 ≤ 9223372036854775807) (ha1 : a1 < 18446744073709551616) (hb1 : b1 < 18446744073709551616)
    (ha2 : a2 < 18446744073709551616) (hb2 : b2 < 18446744073709551616) (w : World) (hT : Tens w) :
    Calls Tryd.prog 8 #[pathV K1 a1 b1, pathV K2 a2 b2] w fun e w' => e = .returned (.bool true) ∧ Below w.heap.size w w' := by
  obtain ⟨X, E, hX⟩ := shown_ex K2 a2 b2
  have HX := Lib.hid hX
  clear hX
  obtain ⟨o1, e1⟩ : ∃ o, Obj.cells #[.int .i64 K1, .int .u64 (a1 : Int), .int .u64 (b1 : Int)] 24 = o := ⟨_, rfl⟩
  obtain ⟨o2, e2⟩ : ∃ o, Obj.cells #[.int .i64 K2, .int .u64 (a2 : Int), .int .u64 (b2 : Int)] 24 = o := ⟨_, rfl⟩
  have HT := Lib.hid (tens_alloc (tens_alloc hT o1) o2)
  have HA := Lib.hid (((Below.refl w.heap.size w).alloc (Nat.le_refl _) o1).alloc (by simp) o2)
  have HP := Lib.hid ((Blk.new w 24 #[.int .i64 K1, .int .u64 (a1 : Int), .int .u64 (b1 : Int)]).alloc o2)
  have HQ := Lib.hid (Blk.new (w.alloc o1) 24 #[.int .i64 K2, .int .u64 (a2 : Int), .int .u64 (b2 : Int)])
  subst e1
  subst e2
  clear hT
  unfold pathV
  go_enter Tryd.func8, Tryd.ntmps8
  go_wp2_with fail
  refine (awake_any _ HT.out).mono ?_
  rintro e w1 ⟨rfl, h1⟩
  have T1 := Lib.hid (tens_below HT.out h1)
  have B1 := Lib.hid (HA.out.trans (h1.mono HA.out.size))
  have P1 := Lib.hid (HP.out.below h1 HP.out.lt)
  have Q1 := Lib.hid (HQ.out.below h1 HQ.out.lt)
  simp only [size_alloc_] at Q1
  clear h1 HP HQ HT HA
  obtain ⟨c0, c1, c2⟩ := cells3 P1.out
  go_wp2_with fail
  refine (fit_any K1 a1 b1 hK1.1 hK1.2 ha1 hb1 w1).mono ?_
  rintro e w2 ⟨k, a, b, hv, rfl, h2⟩
  unfold pathV
  have T2 := Lib.hid (tens_alloc (tens_below T1.out h2) (.cells #[.int .i64 (k : Int), .int .u64 (a : Int), .int .u64 (b : Int)] 24))
  have B2 := Lib.hid ((B1.out.trans (h2.mono B1.out.size)).alloc (Nat.le_trans B1.out.size h2.size) (.cells #[.int .i64 (k : Int), .int .u64 (a : Int), .int .u64 (b : Int)] 24))
  have P2 := Lib.hid (Blk.new w2 24 #[.int .i64 (k : Int), .int .u64 (a : Int), .int .u64 (b : Int)])
  have Q2 := Lib.hid ((Q1.out.below h2 Q1.out.lt).alloc (.cells #[.int .i64 (k : Int), .int .u64 (a : Int), .int .u64 (b : Int)] 24))
  clear h2 c0 c1 c2
  obtain ⟨S, hS⟩ : ∃ S : ByteArray, ⟨(ptext k a b).toArray⟩ = S := ⟨_, rfl⟩
  have HS := Lib.hid hS
  have HV := Lib.hid hv
  clear hS hv
  go_wp2_with fail
  refine (pr_at (k : Int) a b S 0 (shown_of HV.out S HS.out) HV.out.2.2.1 HV.out.2.2.2.1 _ T2.out).mono ?_
  rintro e w3 ⟨rfl, h3⟩
  have T3 := Lib.hid (tens_below T2.out h3)
  have B3 := Lib.hid (B2.out.trans (h3.mono B2.out.size))
  have P3 := Lib.hid (P2.out.below h3 P2.out.lt)
  have Q3 := Lib.hid (Q2.out.below h3 Q2.out.lt)
  clear h3
  obtain ⟨c0, c1, c2⟩ := cells3 Q3.out
  go_wp2_with fail
  refine (pr_at K2 a2 b2 X E HX.out ha2 hb2 w3 T3.out).mono ?_
  rintro e w4 ⟨rfl, h4⟩
  have B4 := Lib.hid (B3.out.trans (h4.mono B3.out.size))
  have P4 := Lib.hid (P3.out.below h4 P3.out.lt)
  have Q4 := Lib.hid (Q3.out.below h4 Q3.out.lt)
  clear h4 c0 c1 c2
  obtain ⟨c0, c1, c2⟩ := cells3 P4.out
  obtain ⟨d0, d1, d2⟩ := cells3 Q4.out
  rcases HX.out with ⟨k2, rfl, hv2, rfl, hl2⟩ | ⟨hn, rfl, rfl⟩
  · by_cases he : S = X
    · have hk : k = k2 ∧ a = a2 ∧ b = b2 := by
        refine ptext_inj k a b k2 a2 b2 HV.out hv2 ?_
        have h1 : S.data.toList = ptext k a b := by rw [← HS.out]
        rw [← h1, ← hl2, he]
      obtain ⟨rfl, rfl, rfl⟩ := hk
      subst he
      clear hl2 hv2 HX
      go_wp2_with fail
      go_ret
      exact ⟨rfl, B4.out⟩
    · have hse : (S.toList == X.toList) = false := by
        rw [beq_eq_false_iff_ne, ByteArray.toList_eq, ByteArray.toList_eq]
        intro h; exact he (list_inj h)
      have hne : ¬ (k2 = k ∧ a2 = a ∧ b2 = b) := by
        rintro ⟨rfl, rfl, rfl⟩
        exact he (HS.out.symm.trans (of_list hl2).symm)
      clear he hl2 hv2 HX
      go_wp2_with fail
      all_goals
        go_ret
        exact ⟨rfl, B4.out⟩
  · have hne : ¬ (K2 = (k : Int) ∧ a2 = a ∧ b2 = b) := by
      rintro ⟨rfl, rfl, rfl⟩
      exact hn ⟨k, rfl, HV.out⟩
    clear hn HX
    go_wp2_with fail
    all_goals
      go_ret
      exact ⟨rfl, B4.out⟩
end Go.Proofs.YtakfplkdjapooaaDoor.Sp
