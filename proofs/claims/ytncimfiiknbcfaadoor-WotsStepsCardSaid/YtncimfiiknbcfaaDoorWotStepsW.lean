/- The walk of WotsSteps. -/
import Derived.Test.YtncimfiiknbcfaaDoorWotOnW
namespace Go.Proofs.YtncimfiiknbcfaaDoor.Sp
open Go Go.RowKit

theorem walk_down (c : Int) (a b : Nat) (v : ByteArray) (ha : a ≤ 15) (hb : b ≤ 15) (h : b ≤ a) : walkB c (a : Int) (b : Int) v = v := by
  rw [walk_nat c a b v hb, show b - a = 0 by omega]; rfl
theorem walk_step (c : Int) (a k : Nat) (v : ByteArray) (h : a ≤ k) (hk : k + 1 ≤ 15) : walkB c (a : Int) ((k + 1 : Nat) : Int) v = stepB c (k : Int) (walkB c (a : Int) (k : Int) v) := by
  rw [walk_nat c a (k + 1) v hk, walk_nat c a k v (by omega), show k + 1 - a = (k - a) + 1 by omega, goB]
  congr 1
  omega

set_option maxHeartbeats 1000000 in
theorem steps_law (c x y : Int) (v : ByteArray) (hc : -9223372036854775808 ≤ c ∧ c ≤ 9223372036854775807) (hx : -9223372036854775808 ≤ x ∧ x ≤ 9223372036854775807) (hy : -9223372036854775808 ≤ y ∧ y ≤ 9223372036854775807) (hv : v.size ≤ 140737488351232) (w : World) (hT : Tab w) :
    Calls Tryd.prog 8 #[.int .i64 c, .int .i64 x, .int .i64 y, .string v] w fun e w' => e = .returned (.bool true) ∧ Below w.heap.size w w' := by
  obtain ⟨a, ha, p1⟩ := pick_any x 16 (by omega) (by omega) hx.1 hx.2
  obtain ⟨b, hb, p2⟩ := pick_any y 16 (by omega) (by omega) hy.1 hy.2
  obtain ⟨Z, hZ⟩ : ∃ Z, walkB c (a : Int) (b : Int) v = Z := ⟨_, rfl⟩
  have W1 := Lib.hid (wwalk_any c (a : Int) (b : Int) v hc (by omega) (by omega) hv)
  rw [hZ] at W1
  have HZ := Lib.hid hZ
  have P1 := Lib.hid p1
  have P2 := Lib.hid p2
  have HT := Lib.hid hT
  clear hT hZ p1 p2
  go_enter Tryd.func8, Tryd.ntmps8
  go_wp2_with fail
  refine (awake_any w HT.out).mono ?_
  rintro e w0 ⟨rfl, h0⟩
  have T0 := Lib.hid (tab_below HT.out h0)
  have B0 := Lib.hid h0
  clear h0
  go_wp2_with fail
  refine (P1.out w0).mono ?_
  rintro e w1 ⟨rfl, rfl⟩
  go_wp2_with fail
  refine (P2.out _).mono ?_
  rintro e w1 ⟨rfl, rfl⟩
  go_wp2_with fail
  go_loopw [12, 13] (fun s t wr => ∃ k : Nat, k ≤ 16 ∧ a ≤ k ∧ (k ≤ b ∨ k = a) ∧ t = .int .i64 (k : Int) ∧ s = .string (walkB c (a : Int) (k : Int) v) ∧ Tab wr ∧ Below w.heap.size w wr) (fun _ t _ => 16 - (intOf t).toNat)
  case atStart => exact ⟨a, by omega, Nat.le_refl _, .inr rfl, rfl, by rw [walk_same c a v (by omega)], T0.out, B0.out⟩
  case round =>
    obtain ⟨k, hk, hak, hkb, rfl, rfl, ht, hbel⟩ := hrel
    have HTr := Lib.hid ht
    have HB := Lib.hid hbel
    clear ht hbel
    obtain ⟨V, hV⟩ : ∃ V, walkB c (a : Int) (k : Int) v = V := ⟨_, rfl⟩
    have hVs : V.size ≤ 140737488351232 := by rw [← hV]; exact walkB_le _ _ _ _ hv
    rw [hV]
    by_cases hlt : k < b
    · have hki : (k : Int) < (b : Int) := by omega
      obtain ⟨S, hS⟩ : ∃ S, stepB c (k : Int) V = S := ⟨_, rfl⟩
      have hSs : S.size = 16 := by rw [← hS]; exact stepB_size _ _ _
      have W2 := Lib.hid (wstep_any c (k : Int) V hc (by omega) hVs)
      rw [hS] at W2
      have hnext := Lib.hid (show walkB c (a : Int) ((k + 1 : Nat) : Int) v = S from by rw [walk_step c a k v hak (by omega), hV, hS])
      have hb15 : b ≤ 15 := by omega
      have hSi : (S.size : Int) = 16 := by omega
      clear hV hS
      go_wp2_with fail
      refine (W2.out _ HTr.out).mono ?_
      rintro e w1 ⟨rfl, h1⟩
      have T1 := Lib.hid (tab_below HTr.out h1)
      have B1 := Lib.hid (HB.out.trans (h1.mono HB.out.size))
      clear h1
      go_wp2_with fail
      go_roundw
      case rel => exact ⟨k + 1, by omega, by omega, .inl (by omega), by go_num, by rw [hnext.out], T1.out, B1.out⟩
      case measure => simp [intOf]; omega
    · have hki : ¬ (k : Int) < (b : Int) := by omega
      have hVZ : V = Z := by
        rw [← hV, ← HZ.out]
        rcases Nat.lt_or_ge b a with h | h
        · obtain rfl : k = a := by omega
          rw [walk_same c k v (by omega), walk_down c k b v (by omega) (by omega) (by omega)]
        · obtain rfl : k = b := by omega
          rfl
      subst hVZ
      clear hV hVs hlt
      go_wp2_with fail
      refine (W1.out _ HTr.out).mono ?_
      rintro e w1 ⟨rfl, h1⟩
      have B1 := Lib.hid (HB.out.trans (h1.mono HB.out.size))
      clear h1
      go_wp2_with fail
      go_ret
      exact ⟨rfl, B1.out⟩
end Go.Proofs.YtncimfiiknbcfaaDoor.Sp
