/- The statements of package path: pick and Fit. -/
import Derived.Test.YtakfplkdjapooaaDoorPthQPa
import Derived.Test.YtakfplkdjapooaaDoorPthEls
namespace Go.Proofs.YtakfplkdjapooaaDoor.Sp
open Go Go.RowKit

theorem pick_any (c : Int) (n : Nat) (hn : 0 < n) (hn2 : n ≤ 9223372036854775807) (h0 : -9223372036854775808 ≤ c) (h1 : c ≤ 9223372036854775807) :
    ∃ r : Nat, r < n ∧ ∀ w, Calls Tryd.prog 15 #[.int .i64 c, .int .i64 (n : Int)] w fun e w' => e = .returned (.int .i64 (r : Int)) ∧ w = w' := by
  have hne : ¬ (n : Int) = 0 := by omega
  by_cases hc : c < 0
  · obtain ⟨d, hd⟩ : ∃ d : Nat, -(c + 1) = (d : Int) := ⟨(-(c + 1)).toNat, by omega⟩
    have hd0 : (0 : Int) ≤ (d : Int) := by omega
    have hw1 : IntKind.i64.wrap (c + 1) = c + 1 := by rw [IntKind.wrap_i64]; omega
    have hw2 : IntKind.i64.wrap (-(c + 1)) = (d : Int) := by rw [IntKind.wrap_i64]; omega
    have hr : (d : Int) % (n : Int) = ((d % n : Nat) : Int) := by omega
    have hrl := Nat.mod_lt d hn
    obtain ⟨r, er⟩ : ∃ r, d % n = r := ⟨_, rfl⟩
    have htm : (d : Int).tmod (n : Int) = (r : Int) := by rw [Int.tmod_eq_emod_of_nonneg hd0, hr, er]
    rw [er] at hrl
    have hw3 : IntKind.i64.wrap (r : Int) = (r : Int) := by rw [IntKind.wrap_i64]; omega
    clear hr er
    refine ⟨r, hrl, fun w => ?_⟩
    go_enter Tryd.func15, Tryd.ntmps15
    go_wp2_with fail
    go_ret
    exact ⟨rfl, rfl⟩
  · obtain ⟨d, rfl⟩ : ∃ d : Nat, c = (d : Int) := ⟨c.toNat, by omega⟩
    have hd0 : (0 : Int) ≤ (d : Int) := by omega
    have hr : (d : Int) % (n : Int) = ((d % n : Nat) : Int) := by omega
    have hrl := Nat.mod_lt d hn
    obtain ⟨r, er⟩ : ∃ r, d % n = r := ⟨_, rfl⟩
    have htm : (d : Int).tmod (n : Int) = (r : Int) := by rw [Int.tmod_eq_emod_of_nonneg hd0, hr, er]
    rw [er] at hrl
    have hw3 : IntKind.i64.wrap (r : Int) = (r : Int) := by rw [IntKind.wrap_i64]; omega
    clear hr er
    refine ⟨r, hrl, fun w => ?_⟩
    go_enter Tryd.func15, Tryd.ntmps15
    go_wp2_with fail
    go_ret
    exact ⟨rfl, rfl⟩

theorem below_new3 (w : World) (o1 o2 o3 : Obj) : Below w.heap.size w (((w.alloc o1).alloc o2).alloc o3).drew := ((((Below.refl _ _).alloc (Nat.le_refl _) _).alloc (by simp) _).alloc (by simp; omega) _).drew

/-- Fit: a path that has a text. -/
def FitTo (w : World) (e : Ending) (w' : World) : Prop := ∃ k a b : Nat, Valid k a b ∧ e = .returned (pathV k a b) ∧ Below w.heap.size w w'

set_option maxHeartbeats 1000000 in
theorem fit_any (K : Int) (a b : Nat) (h0 : -9223372036854775808 ≤ K) (h1 : K ≤ 9223372036854775807) (ha : a < 18446744073709551616) (hb : b < 18446744073709551616) (w : World) :
    Calls Tryd.prog 14 #[pathV K a b] w (FitTo w) := by
  obtain ⟨r, hr, hpick⟩ := pick_any K 8 (by omega) (by omega) h0 h1
  obtain ⟨k, hk⟩ : ∃ k, 1 + r = k := ⟨_, rfl⟩
  have hki : 1 + (r : Int) = (k : Int) := by omega
  have hkw : IntKind.i64.wrap (k : Int) = (k : Int) := by rw [IntKind.wrap_i64]; omega
  have hk1 : 1 ≤ k := by omega
  have hk8 : k ≤ 8 := by omega
  have HP := Lib.hid hpick
  clear hpick hr hk
  unfold pathV
  go_enter Tryd.func14, Tryd.ntmps14
  go_wp2_with fail
  rename_i Kc hK
  have done_ : Kc { tmps := #[.agg #[.int .i64 K, .int .u64 (a : Int), .int .u64 (b : Int)], .pointer (some ⟨w.heap.size, 0, none⟩), .pointer (some ⟨w.heap.size + 1, 0, none⟩), .pointer (some ⟨w.heap.size + 1 + 1, 0, none⟩),
      .pointer (some ⟨w.heap.size, 0, none⟩), .int .i64 K, .int .i64 (r : Int), .int .i64 (k : Int), .pointer (some ⟨w.heap.size, 1, none⟩), .int .u64 (a : Int), .agg #[.int .i64 (k : Int), .int .u64 (a : Int), .int .u64 0],
      undef, undef, undef, undef, undef, undef, undef, undef, undef, undef, undef], defers := [] }
      (((w.alloc (.cells #[.int .i64 K, .int .u64 (a : Int), .int .u64 (b : Int)] 24)).alloc (.cells #[.int .i64 0, .int .u64 0, .int .u64 0] 24)).alloc (.cells #[.int .i64 (k : Int), .int .u64 (a : Int), .int .u64 0] 24)).drew := by
    apply hK
    clear hK HP
    rcases (show k = 2 ∨ k = 5 ∨ k = 6 ∨ k = 7 ∨ (k ≠ 2 ∧ k ≠ 5 ∧ k ≠ 6 ∧ k ≠ 7) by omega) with rfl | rfl | rfl | rfl | ⟨m2, m5, m6, m7⟩
    · clear hki hkw
      go_wp2_with fail
      refine ret_agg rfl (w.heap.size + 1) 24 #[.int .i64 2, .int .u64 (a : Int), .int .u64 (b : Int)] _ rfl ?_ rfl Tryd.underlying24 rfl (by kernel_rfl) ?_
      · have h := (Blk.new (w.alloc (.cells #[.int .i64 K, .int .u64 (a : Int), .int .u64 (b : Int)] 24)) 24 #[.int .i64 2, .int .u64 (a : Int), .int .u64 (b : Int)]).alloc (.cells #[.int .i64 2, .int .u64 (a : Int), .int .u64 (b : Int)] 24)
        rw [size_alloc_] at h
        exact h.drew
      · exact ⟨2, a, b, ⟨by omega, by omega, ha, hb, .inl rfl⟩, rfl, below_new3 w _ _ _⟩
    · clear hki hkw
      go_wp2_with fail
      refine ret_agg rfl (w.heap.size + 1) 24 #[.int .i64 5, .int .u64 (a : Int), .int .u64 (b : Int)] _ rfl ?_ rfl Tryd.underlying24 rfl (by kernel_rfl) ?_
      · have h := (Blk.new (w.alloc (.cells #[.int .i64 K, .int .u64 (a : Int), .int .u64 (b : Int)] 24)) 24 #[.int .i64 5, .int .u64 (a : Int), .int .u64 (b : Int)]).alloc (.cells #[.int .i64 5, .int .u64 (a : Int), .int .u64 (b : Int)] 24)
        rw [size_alloc_] at h
        exact h.drew
      · exact ⟨5, a, b, ⟨by omega, by omega, ha, hb, .inl rfl⟩, rfl, below_new3 w _ _ _⟩
    · clear hki hkw
      go_wp2_with fail
      refine ret_agg rfl (w.heap.size + 1) 24 #[.int .i64 6, .int .u64 (a : Int), .int .u64 (b : Int)] _ rfl ?_ rfl Tryd.underlying24 rfl (by kernel_rfl) ?_
      · have h := (Blk.new (w.alloc (.cells #[.int .i64 K, .int .u64 (a : Int), .int .u64 (b : Int)] 24)) 24 #[.int .i64 6, .int .u64 (a : Int), .int .u64 (b : Int)]).alloc (.cells #[.int .i64 6, .int .u64 (a : Int), .int .u64 (b : Int)] 24)
        rw [size_alloc_] at h
        exact h.drew
      · exact ⟨6, a, b, ⟨by omega, by omega, ha, hb, .inl rfl⟩, rfl, below_new3 w _ _ _⟩
    · clear hki hkw
      go_wp2_with fail
      refine ret_agg rfl (w.heap.size + 1) 24 #[.int .i64 7, .int .u64 (a : Int), .int .u64 (b : Int)] _ rfl ?_ rfl Tryd.underlying24 rfl (by kernel_rfl) ?_
      · have h := (Blk.new (w.alloc (.cells #[.int .i64 K, .int .u64 (a : Int), .int .u64 (b : Int)] 24)) 24 #[.int .i64 7, .int .u64 (a : Int), .int .u64 (b : Int)]).alloc (.cells #[.int .i64 7, .int .u64 (a : Int), .int .u64 (b : Int)] 24)
        rw [size_alloc_] at h
        exact h.drew
      · exact ⟨7, a, b, ⟨by omega, by omega, ha, hb, .inl rfl⟩, rfl, below_new3 w _ _ _⟩
    · have n2 : ¬ (k : Int) = 2 := by omega
      have n5 : ¬ (k : Int) = 5 := by omega
      have n6 : ¬ (k : Int) = 6 := by omega
      have n7 : ¬ (k : Int) = 7 := by omega
      clear m2 m5 m6 m7 hki hkw
      go_wp2_with fail
      refine ret_agg rfl (w.heap.size + 1) 24 #[.int .i64 (k : Int), .int .u64 (a : Int), .int .u64 0] _ rfl ?_ rfl Tryd.underlying24 rfl (by kernel_rfl) ?_
      · have h := (Blk.new (w.alloc (.cells #[.int .i64 K, .int .u64 (a : Int), .int .u64 (b : Int)] 24)) 24 #[.int .i64 (k : Int), .int .u64 (a : Int), .int .u64 0]).alloc (.cells #[.int .i64 (k : Int), .int .u64 (a : Int), .int .u64 0] 24)
        rw [size_alloc_] at h
        exact h.drew
      · exact ⟨k, a, 0, ⟨hk1, hk8, ha, by omega, .inr rfl⟩, rfl, below_new3 w _ _ _⟩
  go_region_law ((go_simp; go_at_call 15; refine (HP.out _).mono ?_; rintro e w' ⟨rfl, rfl⟩))
  all_goals exact done_
end Go.Proofs.YtakfplkdjapooaaDoor.Sp
