/- The walk of PathBack. -/
import Derived.Test.YtakfplkdjapooaaDoorPthTellsW
namespace Go.Proofs.YtakfplkdjapooaaDoor.Sp
open Go Go.RowKit

theorem shown_of {k a b : Nat} (hv : Valid k a b) (T : ByteArray) (hT : ⟨(ptext k a b).toArray⟩ = T) : Shown (k : Int) a b T 0 := .inl ⟨k, rfl, hv, rfl, by rw [← hT]⟩
theorem found_of {k a b : Nat} (hv : Valid k a b) (T : ByteArray) (hT : ⟨(ptext k a b).toArray⟩ = T) : Found T.data.toList k a b 0 := .inl ⟨rfl, hv, by rw [← hT]⟩
theorem text_size {k a b : Nat} (hv : Valid k a b) (T : ByteArray) (hT : ⟨(ptext k a b).toArray⟩ = T) : T.size ≤ 83 := by
  rw [← hT, ← size_list]
  exact ptext_len k a b hv.2.2.1 hv.2.2.2.1

set_option maxRecDepth 100000 in
set_option maxHeartbeats 4000000 in
theorem back_law (K1 : Int) (a1 b1 : Nat) (K2 : Int) (a2 b2 : Nat) (hK1 : -9223372036854775808 ≤ K1 ∧ K1 ≤ 9223372036854775807) (ha1 : a1 < 18446744073709551616) (hb1 : b1 < 18446744073709551616)
    (hK2 : -9223372036854775808 ≤ K2 ∧ K2 ≤ 9223372036854775807) (ha2 : a2 < 18446744073709551616) (hb2 : b2 < 18446744073709551616) (w : World) (hT : Tens w) :
    Calls Tryd.prog 4 #[pathV K1 a1 b1, pathV K2 a2 b2] w fun e w' => e = .returned (.bool true) ∧ Below w.heap.size w w' := by
  obtain ⟨o1, e1⟩ : ∃ o, Obj.cells #[.int .i64 K1, .int .u64 (a1 : Int), .int .u64 (b1 : Int)] 24 = o := ⟨_, rfl⟩
  obtain ⟨o2, e2⟩ : ∃ o, Obj.cells #[.int .i64 K2, .int .u64 (a2 : Int), .int .u64 (b2 : Int)] 24 = o := ⟨_, rfl⟩
  have HT := Lib.hid (tens_alloc (tens_alloc hT o1) o2)
  have HA := Lib.hid (((Below.refl w.heap.size w).alloc (Nat.le_refl _) o1).alloc (by simp) o2)
  have HP := Lib.hid ((Blk.new w 24 #[.int .i64 K1, .int .u64 (a1 : Int), .int .u64 (b1 : Int)]).alloc o2)
  have HQ := Lib.hid (Blk.new (w.alloc o1) 24 #[.int .i64 K2, .int .u64 (a2 : Int), .int .u64 (b2 : Int)])
  subst e1
  subst e2
  clear hT
  unfold pathV
  go_enter Tryd.func4, Tryd.ntmps4
  go_wp2_with fail
  refine (awake_any _ HT.out).mono ?_
  rintro e w1 ⟨rfl, h1⟩
  have T1 := Lib.hid (tens_below HT.out h1)
  have B1 := Lib.hid (HA.out.trans (h1.mono HA.out.size))
  have P1 := Lib.hid (HP.out.below h1 HP.out.lt)
  have Q1 := Lib.hid (HQ.out.below h1 HQ.out.lt)
  simp only [size_alloc_] at Q1
  clear h1 HP HQ HT HA
  obtain ⟨c0, c1, c2⟩ := cells3 P1.out
  go_wp2_with fail
  refine (fit_any K1 a1 b1 hK1.1 hK1.2 ha1 hb1 w1).mono ?_
  rintro e w2 ⟨k, a, b, hv, rfl, h2⟩
  unfold pathV
  have T2 := Lib.hid (tens_alloc (tens_below T1.out h2) (.cells #[.int .i64 (k : Int), .int .u64 (a : Int), .int .u64 (b : Int)] 24))
  have B2 := Lib.hid ((B1.out.trans (h2.mono B1.out.size)).alloc (Nat.le_trans B1.out.size h2.size) (.cells #[.int .i64 (k : Int), .int .u64 (a : Int), .int .u64 (b : Int)] 24))
  have P2 := Lib.hid (Blk.new w2 24 #[.int .i64 (k : Int), .int .u64 (a : Int), .int .u64 (b : Int)])
  have Q2 := Lib.hid ((Q1.out.below h2 Q1.out.lt).alloc (.cells #[.int .i64 (k : Int), .int .u64 (a : Int), .int .u64 (b : Int)] 24))
  have q2 := Q1.out.below h2 Q1.out.lt
  have q2l := q2.lt
  clear h2 c0 c1 c2
  obtain ⟨c0, c1, c2⟩ := cells3 q2
  clear q2
  go_wp2_with fail
  refine (fit_any K2 a2 b2 hK2.1 hK2.2 ha2 hb2 _).mono ?_
  rintro e w3 ⟨k', a', b', hv', rfl, h3⟩
  unfold pathV
  have T3 := Lib.hid (tens_alloc (tens_below T2.out h3) (.cells #[.int .i64 (k' : Int), .int .u64 (a' : Int), .int .u64 (b' : Int)] 24))
  have B3 := Lib.hid ((B2.out.trans (h3.mono B2.out.size)).alloc (Nat.le_trans B2.out.size h3.size) (.cells #[.int .i64 (k' : Int), .int .u64 (a' : Int), .int .u64 (b' : Int)] 24))
  have p3 := P2.out.below h3 P2.out.lt
  have P3 := Lib.hid (p3.alloc (.cells #[.int .i64 (k' : Int), .int .u64 (a' : Int), .int .u64 (b' : Int)] 24))
  have Q3 := Lib.hid (Blk.new w3 24 #[.int .i64 (k' : Int), .int .u64 (a' : Int), .int .u64 (b' : Int)])
  have p3l := p3.lt
  clear h3 c0 c1 c2 q2l
  obtain ⟨c0, c1, c2⟩ := cells3 p3
  clear p3 P2 Q2
  obtain ⟨S, hS⟩ : ∃ S : ByteArray, ⟨(ptext k a b).toArray⟩ = S := ⟨_, rfl⟩
  obtain ⟨U, hU⟩ : ∃ U : ByteArray, ⟨(ptext k' a' b').toArray⟩ = U := ⟨_, rfl⟩
  have HS := Lib.hid hS
  have HU := Lib.hid hU
  have HV := Lib.hid (And.intro hv hv')
  clear hS hU hv hv'
  go_wp2_with fail
  refine (pr_at (k : Int) a b S 0 (shown_of HV.out.1 S HS.out) HV.out.1.2.2.1 HV.out.1.2.2.2.1 _ T3.out).mono ?_
  rintro e w4 ⟨rfl, h4⟩
  have T4 := Lib.hid (tens_below T3.out h4)
  have B4 := Lib.hid (B3.out.trans (h4.mono B3.out.size))
  have P4 := Lib.hid (P3.out.below h4 P3.out.lt)
  have Q4 := Lib.hid (Q3.out.below h4 Q3.out.lt)
  clear h4 c0 c1 c2 p3l
  obtain ⟨c0, c1, c2⟩ := cells3 Q4.out
  go_wp2_with fail
  refine (pr_at (k' : Int) a' b' U 0 (shown_of HV.out.2 U HU.out) HV.out.2.2.2.1 HV.out.2.2.2.2.1 w4 T4.out).mono ?_
  rintro e w5 ⟨rfl, h5⟩
  have T5 := Lib.hid (tens_below T4.out h5)
  have B5 := Lib.hid (B4.out.trans (h5.mono B4.out.size))
  have P5 := Lib.hid (P4.out.below h5 P4.out.lt)
  have Q5 := Lib.hid (Q4.out.below h5 Q4.out.lt)
  clear h5 c0 c1 c2
  go_wp2_with fail
  refine (pa_at S k a b 0 (found_of HV.out.1 S HS.out) (by have := text_size HV.out.1 S HS.out; omega) w5 T5.out).mono ?_
  rintro e w6 ⟨rfl, h6⟩
  unfold pathV
  have B6 := Lib.hid (B5.out.trans (h6.mono B5.out.size))
  have P6 := Lib.hid (P5.out.below h6 P5.out.lt)
  have Q6 := Lib.hid (Q5.out.below h6 Q5.out.lt)
  have l1 := P6.out.lt
  have l2 := Q6.out.lt
  obtain ⟨c0, c1, c2⟩ := cells3 P6.out
  obtain ⟨d0, d1, d2⟩ := cells3 Q6.out
  clear h6
  by_cases he : S = U
  · have hk : k = k' ∧ a = a' ∧ b = b' := by
      refine ptext_inj k a b k' a' b' HV.out.1 HV.out.2 ?_
      have h1 : S.data.toList = ptext k a b := by rw [← HS.out]
      have h2 : U.data.toList = ptext k' a' b' := by rw [← HU.out]
      rw [← h1, ← h2, he]
    obtain ⟨rfl, rfl, rfl⟩ := hk
    subst he
    go_wp2_with fail
    go_ret
    exact ⟨rfl, B6.out.alloc B6.out.size _⟩
  · have hse : (S.toList == U.toList) = false := by
      rw [beq_eq_false_iff_ne, ByteArray.toList_eq, ByteArray.toList_eq]
      intro h; exact he (list_inj h)
    have hne : ¬ (k = k' ∧ a = a' ∧ b = b') := by
      rintro ⟨rfl, rfl, rfl⟩
      exact he (HS.out.symm.trans HU.out)
    clear he
    go_wp2_with fail
    all_goals
      go_ret
      exact ⟨rfl, B6.out.alloc B6.out.size _⟩
end Go.Proofs.YtakfplkdjapooaaDoor.Sp
