/- The walk of SignerEnds. -/
import Derived.Test.YtnbaoihamjdjdaaDoorSigAwake
import Derived.Test.YtnbaoihamjdjdaaDoorSigPick
namespace Go.Proofs.YtnbaoihamjdjdaaDoor.Sp
open Go Go.RowKit
set_option maxRecDepth 100000
variable {Sg : World → (Nat → Prop) → Nat → ByteArray → Nat → Nat → Prop}

set_option maxHeartbeats 4000000 in
theorem ends_low (R : SigR Sg) (seed : ByteArray) (x y : Int) (msg : ByteArray) (hs : seed.size ≤ 140737488351232) (hx : -9223372036854775808 ≤ x ∧ x ≤ 9223372036854775807) (_hy : -9223372036854775808 ≤ y ∧ y ≤ 9223372036854775807) (_hm : msg.size ≤ 140737488351232) (w : World) (hT : Tab w) (h0 : x < 0) :
    Calls Tryd.prog 7 #[.string seed, .int .i64 x, .int .i64 y, .string msg] w fun e w' => e = .returned (.bool true) ∧ Below w.heap.size w w' := by
  have HT := Lib.hid hT
  clear hT
  have H1 := Lib.hid (R.new_no seed x (-1) · hs hx (by omega) (.inl h0))
  have hx0 : ¬ (0 : Int) ≤ x := by omega
  go_enter Tryd.func7, Tryd.ntmps7
  go_wp2_with fail
  refine (awake_any R w HT.out).mono ?_
  rintro e w0 ⟨rfl, h0⟩
  have B0 := Lib.hid h0
  have T0 := Lib.hid (tab_below HT.out h0)
  clear h0
  go_wp2_with fail
  refine (H1.out w0 T0.out).mono ?_
  rintro e w1 ⟨rfl, h1⟩
  have B1 := Lib.hid (B0.out.trans (h1.mono B0.out.size))
  clear h1
  go_wp2_with fail
  go_ret
  exact ⟨rfl, B1.out⟩

set_option maxHeartbeats 4000000 in
theorem ends_high (R : SigR Sg) (seed : ByteArray) (x y : Int) (msg : ByteArray) (hs : seed.size ≤ 140737488351232) (hx : -9223372036854775808 ≤ x ∧ x ≤ 9223372036854775807) (_hy : -9223372036854775808 ≤ y ∧ y ≤ 9223372036854775807) (_hm : msg.size ≤ 140737488351232) (w : World) (hT : Tab w) (h0 : 7 < x) :
    Calls Tryd.prog 7 #[.string seed, .int .i64 x, .int .i64 y, .string msg] w fun e w' => e = .returned (.bool true) ∧ Below w.heap.size w w' := by
  have HT := Lib.hid hT
  clear hT
  have H1 := Lib.hid (R.new_no seed x (-1) · hs hx (by omega) (.inr (.inl h0)))
  have hx0 : (0 : Int) ≤ x := by omega
  have hx1 : ¬ x < 0 := by omega
  have hx3 : 3 < x := by omega
  have hx7 : ¬ x ≤ 7 := by omega
  go_enter Tryd.func7, Tryd.ntmps7
  go_wp2_with fail
  refine (awake_any R w HT.out).mono ?_
  rintro e w0 ⟨rfl, h0⟩
  have B0 := Lib.hid h0
  have T0 := Lib.hid (tab_below HT.out h0)
  clear h0
  go_wp2_with fail
  refine (H1.out w0 T0.out).mono ?_
  rintro e w1 ⟨rfl, h1⟩
  have B1 := Lib.hid (B0.out.trans (h1.mono B0.out.size))
  clear h1
  go_wp2_with fail
  go_ret
  exact ⟨rfl, B1.out⟩

set_option maxHeartbeats 4000000 in
theorem ends_mid (R : SigR Sg) (seed : ByteArray) (x y : Int) (msg : ByteArray) (hs : seed.size ≤ 140737488351232) (hx : -9223372036854775808 ≤ x ∧ x ≤ 9223372036854775807) (hy : -9223372036854775808 ≤ y ∧ y ≤ 9223372036854775807) (_hm : msg.size ≤ 140737488351232) (w : World) (hT : Tab w) (h0 : 3 < x) (h7 : x ≤ 7) :
    Calls Tryd.prog 7 #[.string seed, .int .i64 x, .int .i64 y, .string msg] w fun e w' => e = .returned (.bool true) ∧ Below w.heap.size w w' := by
  have HT := Lib.hid hT
  clear hT
  have H1 := Lib.hid (R.new_no seed x (-1) · hs hx (by omega) (.inr (.inr (.inl (by omega)))))
  have hx0 : (0 : Int) ≤ x := by omega
  have hx1 : ¬ x < 0 := by omega
  by_cases hy0 : y < 0
  · have hy1 : ¬ (0 : Int) ≤ y := by omega
    go_enter Tryd.func7, Tryd.ntmps7
    go_wp2_with fail
    refine (awake_any R w HT.out).mono ?_
    rintro e w0 ⟨rfl, h0⟩
    have B0 := Lib.hid h0
    have T0 := Lib.hid (tab_below HT.out h0)
    clear h0
    go_wp2_with fail
    refine (H1.out w0 T0.out).mono ?_
    rintro e w1 ⟨rfl, h1⟩
    have B1 := Lib.hid (B0.out.trans (h1.mono B0.out.size))
    clear h1
    go_wp2_with fail
    go_ret
    exact ⟨rfl, B1.out⟩
  · have hy1 : (0 : Int) ≤ y := by omega
    obtain ⟨r, hr, p1⟩ := pick_any x 8 (by omega) (by omega) hx.1 hx.2
    have P1 := Lib.hid p1
    have h8 : 2 ^ r ≤ 128 := Nat.le_trans (Nat.pow_le_pow_right (by omega) (show r ≤ 7 by omega)) (by decide)
    obtain ⟨M, hM⟩ : ∃ M : Nat, 2 ^ r = M := ⟨_, rfl⟩
    have hMi : (2 : Int) ^ r = (M : Int) := by rw [← hM]; simp
    have hMw : IntKind.i64.wrap (M : Int) = (M : Int) := by rw [IntKind.wrap_i64]; omega
    have hr0 : (0 : Int) ≤ (r : Int) := by omega
    clear p1 hM
    by_cases hyM : y ≤ (M : Int)
    · skip
      go_enter Tryd.func7, Tryd.ntmps7
      go_wp2_with fail
      refine (awake_any R w HT.out).mono ?_
      rintro e w0 ⟨rfl, h0⟩
      have B0 := Lib.hid h0
      have T0 := Lib.hid (tab_below HT.out h0)
      clear h0
      go_wp2_with fail
      refine (P1.out _).mono ?_
      rintro e v1 ⟨rfl, rfl⟩
      go_wp2_with fail
      refine (H1.out _ T0.out).mono ?_
      rintro e w1 ⟨rfl, h1⟩
      have B1 := Lib.hid (B0.out.trans (h1.mono B0.out.size))
      clear h1
      go_wp2_with fail
      go_ret
      exact ⟨rfl, B1.out⟩
    · skip
      go_enter Tryd.func7, Tryd.ntmps7
      go_wp2_with fail
      refine (awake_any R w HT.out).mono ?_
      rintro e w0 ⟨rfl, h0⟩
      have B0 := Lib.hid h0
      have T0 := Lib.hid (tab_below HT.out h0)
      clear h0
      go_wp2_with fail
      refine (P1.out _).mono ?_
      rintro e v1 ⟨rfl, rfl⟩
      go_wp2_with fail
      refine (H1.out _ T0.out).mono ?_
      rintro e w1 ⟨rfl, h1⟩
      have B1 := Lib.hid (B0.out.trans (h1.mono B0.out.size))
      clear h1
      go_wp2_with fail
      go_ret
      exact ⟨rfl, B1.out⟩

set_option maxHeartbeats 4000000 in
theorem ends_small (R : SigR Sg) (seed : ByteArray) (x y : Int) (msg : ByteArray) (hs : seed.size ≤ 140737488351232) (hx : -9223372036854775808 ≤ x ∧ x ≤ 9223372036854775807) (hy : -9223372036854775808 ≤ y ∧ y ≤ 9223372036854775807) (hm : msg.size ≤ 140737488351232) (w : World) (hT : Tab w) (h : Nat) (hh : h ≤ 3) (e : x = (h : Int)) :
    Calls Tryd.prog 7 #[.string seed, .int .i64 x, .int .i64 y, .string msg] w fun e w' => e = .returned (.bool true) ∧ Below w.heap.size w w' := by
  have HT := Lib.hid hT
  clear hT
  subst e
  have h2 : 0 < 2 ^ h := Nat.pow_pos (by omega)
  have h8 : 2 ^ h ≤ 8 := Nat.le_trans (Nat.pow_le_pow_right (by omega) hh) (by decide)
  obtain ⟨M, hM⟩ : ∃ M : Nat, 2 ^ h = M := ⟨_, rfl⟩
  have hMi : (2 : Int) ^ h = (M : Int) := by rw [← hM]; simp
  have hMw : IntKind.i64.wrap (M : Int) = (M : Int) := by rw [IntKind.wrap_i64]; omega
  have hx0 : (0 : Int) ≤ (h : Int) := by omega
  have hx1 : ¬ (h : Int) < 0 := by omega
  have hx3 : ¬ (3 : Int) < (h : Int) := by omega
  have hx7 : (h : Int) ≤ 7 := by omega
  have P1 := Lib.hid (pick_small h 8 (by omega) (by omega))
  by_cases hy0 : y < 0
  · have hy1 : ¬ (0 : Int) ≤ y := by omega
    have H1 := Lib.hid (R.new_no seed h y · hs hx hy (.inr (.inr (.inl hy0))))
    go_enter Tryd.func7, Tryd.ntmps7
    go_wp2_with fail
    refine (awake_any R w HT.out).mono ?_
    rintro e w0 ⟨rfl, h0⟩
    have B0 := Lib.hid h0
    have T0 := Lib.hid (tab_below HT.out h0)
    clear h0
    go_wp2_with fail
    refine (H1.out w0 T0.out).mono ?_
    rintro e w1 ⟨rfl, h1⟩
    have B1 := Lib.hid (B0.out.trans (h1.mono B0.out.size))
    clear h1
    go_wp2_with fail
    go_ret
    exact ⟨rfl, B1.out⟩
  · obtain ⟨n, hn⟩ : ∃ n : Nat, y = (n : Int) := ⟨y.toNat, by omega⟩
    subst hn
    have hy1 : (0 : Int) ≤ (n : Int) := by omega
    by_cases hyM : n ≤ M
    · have hyMi : (n : Int) ≤ (M : Int) := by omega
      obtain ⟨K, hK⟩ : ∃ K, keyB seed h = K := ⟨_, rfl⟩
      have hp := fun (w : World) (F : Nat → Prop) (g n : Nat) (s : Sg w F g seed h n) (t : Tab w) => R.pub w F g seed h n s t
      rw [hK] at hp
      have HP := Lib.hid hp
      have HM := Lib.hid hM
      have HnM := Lib.hid hyM
      have Hh := Lib.hid hh
      clear hM hK hp
      go_enter Tryd.func7, Tryd.ntmps7
      go_wp2_with fail
      refine (awake_any R w HT.out).mono ?_
      rintro e w0 ⟨rfl, h0⟩
      have B0 := Lib.hid h0
      have T0 := Lib.hid (tab_below HT.out h0)
      clear h0
      go_wp2_with fail
      refine (P1.out _).mono ?_
      rintro e v1 ⟨rfl, rfl⟩
      go_wp2_with fail
      refine (R.new_ok seed h n _ hs (by have := Hh.out; omega) (by rw [HM.out]; exact HnM.out) T0.out).mono ?_
      rintro e w1 ⟨g1, G1, rfl, s1, f1, h1⟩
      have S1 := Lib.hid s1
      have B1 := Lib.hid (B0.out.trans (h1.mono B0.out.size))
      have bs1 := B0.out.size
      have F1 := Lib.hid (fun q (hq : G1 q) => Nat.le_trans bs1 (f1 q hq))
      have T1 := Lib.hid (tab_below HT.out B1.out)
      clear s1 f1 h1 bs1
      go_wp2_with fail
      refine (R.new_ok seed h M w1 hs (by have := Hh.out; omega) (by rw [HM.out]; exact Nat.le_refl _) T1.out).mono ?_
      rintro e w2 ⟨g2, G2, rfl, s2, f2, h2b⟩
      have S2 := Lib.hid s2
      have O2 := Lib.hid (R.below S1.out h2b)
      have D2 := Lib.hid (show ∀ q, G1 q → G2 q → False from fun q h1 h3 => by have := R.lt S1.out q h1; have := f2 q h3; omega)
      have B2 := Lib.hid (B1.out.trans (h2b.mono B1.out.size))
      have bs2 := B1.out.size
      have F2 := Lib.hid (fun q (hq : G2 q) => Nat.le_trans bs2 (f2 q hq))
      have T2 := Lib.hid (tab_below HT.out B2.out)
      clear s2 f2 h2b bs2
      go_wp2_with fail
      have P3 := R.sign_no w2 G2 g2 seed h M msg S2.out HM.out.symm hm T2.out
      refine P3.mono ?_
      rintro e w3 ⟨G3, rfl, s3, t3, i3⟩
      have S3 := Lib.hid s3
      have O3 := Lib.hid (R.other O2.out t3 (fun q h1 h2 => D2.out q h1 h2))
      have D3 := Lib.hid (show ∀ q, G1 q → G3 q → False from fun q (hp : G1 q) (hq : G3 q) => by
        rcases i3 q hq with h1 | h1
        · exact D2.out q hp h1
        · have := R.lt O2.out q hp; omega)
      have B3 := Lib.hid (t3.below B2.out F2.out B2.out.size)
      have F3 := Lib.hid (i3.from F2.out B2.out.size)
      have T3 := Lib.hid (tab_below HT.out B3.out)
      clear s3 t3 i3 P3
      go_wp2_with fail
      go_region_held3 (fun _ => True) (trivial) ((first
        | (have U4 := O3; go_at_call 14; refine (R.spent _ _ g1 seed h n (by first | exact O3.out | exact R.keep O3.out (fun _ _ => rfl) (Nat.le_refl _)) (by first | exact T3.out | exact tab_drew_ T3.out)).mono ?_; rintro e w4 ⟨G4, rfl, s4, t4, i4⟩; have t4 : Turned G1 w3 w4 := ⟨t4.os, t4.tape, t4.output, t4.size, t4.block⟩; have i4 : Within G1 G4 w3 := i4; have S4 := Lib.hid s4; have O4 := Lib.hid (R.other S3.out t4 (fun q h1 h2 => D3.out q h2 h1)); have D4 := Lib.hid (show ∀ q, G4 q → G3 q → False from fun q (hq : G4 q) (hp : G3 q) => (i4 q hq).elim (fun h1 => D3.out q h1 hp) (fun h1 => by have := R.lt S3.out q hp; omega)); have B4 := Lib.hid (t4.below B3.out F1.out B3.out.size); have F4 := Lib.hid (i4.from F1.out B3.out.size); have T4 := Lib.hid (tab_below HT.out B4.out); clear s4 t4 i4 U4 O3 S3)
        | (have U5 := O4; go_at_call 14; refine (R.spent _ _ g2 seed h M (by first | exact O4.out | exact R.keep O4.out (fun _ _ => rfl) (Nat.le_refl _)) (by first | exact T4.out | exact tab_drew_ T4.out)).mono ?_; rintro e w5 ⟨G5, rfl, s5, t5, i5⟩; have t5 : Turned G3 w4 w5 := ⟨t5.os, t5.tape, t5.output, t5.size, t5.block⟩; have i5 : Within G3 G5 w4 := i5; have S5 := Lib.hid s5; have O5 := Lib.hid (R.other S4.out t5 (fun q h1 h2 => D4.out q h1 h2)); have D5 := Lib.hid (show ∀ q, G4 q → G5 q → False from fun q (hp : G4 q) (hq : G5 q) => (i5 q hq).elim (fun h1 => D4.out q hp h1) (fun h1 => by have := R.lt S4.out q hp; omega)); have B5 := Lib.hid (t5.below B4.out F3.out B4.out.size); have F5 := Lib.hid (i5.from F3.out B4.out.size); have T5 := Lib.hid (tab_below HT.out B5.out); clear s5 t5 i5 U5 O4 S4)
        | (have U6 := O5; go_at_call 11; refine (HP.out _ _ g1 n (by first | exact O5.out | exact R.keep O5.out (fun _ _ => rfl) (Nat.le_refl _)) (by first | exact T5.out | exact tab_drew_ T5.out)).mono ?_; rintro e w6 ⟨G6, rfl, s6, t6, i6⟩; have t6 : Turned G4 w5 w6 := ⟨t6.os, t6.tape, t6.output, t6.size, t6.block⟩; have i6 : Within G4 G6 w5 := i6; have S6 := Lib.hid s6; have O6 := Lib.hid (R.other S5.out t6 (fun q h1 h2 => D5.out q h2 h1)); have D6 := Lib.hid (show ∀ q, G6 q → G5 q → False from fun q (hq : G6 q) (hp : G5 q) => (i6 q hq).elim (fun h1 => D5.out q h1 hp) (fun h1 => by have := R.lt S5.out q hp; omega)); have B6 := Lib.hid (t6.below B5.out F4.out B5.out.size); have F6 := Lib.hid (i6.from F4.out B5.out.size); have T6 := Lib.hid (tab_below HT.out B6.out); clear s6 t6 i6 U6 O5 S5)
        | (have U7 := O6; go_at_call 11; refine (HP.out _ _ g2 M (by first | exact O6.out | exact R.keep O6.out (fun _ _ => rfl) (Nat.le_refl _)) (by first | exact T6.out | exact tab_drew_ T6.out)).mono ?_; rintro e w7 ⟨G7, rfl, s7, t7, i7⟩; have t7 : Turned G5 w6 w7 := ⟨t7.os, t7.tape, t7.output, t7.size, t7.block⟩; have i7 : Within G5 G7 w6 := i7; have S7 := Lib.hid s7; have O7 := Lib.hid (R.other S6.out t7 (fun q h1 h2 => D6.out q h1 h2)); have D7 := Lib.hid (show ∀ q, G6 q → G7 q → False from fun q (hp : G6 q) (hq : G7 q) => (i7 q hq).elim (fun h1 => D6.out q hp h1) (fun h1 => by have := R.lt S6.out q hp; omega)); have B7 := Lib.hid (t7.below B6.out F5.out B6.out.size); have F7 := Lib.hid (i7.from F5.out B6.out.size); have T7 := Lib.hid (tab_below HT.out B7.out); clear s7 t7 i7 U7 O6 S6)))
      all_goals
        go_wp2_with fail
        go_ret
        exact ⟨rfl, B7.out⟩
    · have hyMi : ¬ (n : Int) ≤ (M : Int) := by omega
      have H1 := Lib.hid (R.new_no seed h n · hs hx hy (.inr (.inr (.inr (by rw [Int.toNat_natCast, hMi]; omega)))))
      clear hM
      go_enter Tryd.func7, Tryd.ntmps7
      go_wp2_with fail
      refine (awake_any R w HT.out).mono ?_
      rintro e w0 ⟨rfl, h0⟩
      have B0 := Lib.hid h0
      have T0 := Lib.hid (tab_below HT.out h0)
      clear h0
      go_wp2_with fail
      refine (P1.out _).mono ?_
      rintro e v1 ⟨rfl, rfl⟩
      go_wp2_with fail
      refine (H1.out _ T0.out).mono ?_
      rintro e w1 ⟨rfl, h1⟩
      have B1 := Lib.hid (B0.out.trans (h1.mono B0.out.size))
      clear h1
      go_wp2_with fail
      go_ret
      exact ⟨rfl, B1.out⟩

theorem ends_law (R : SigR Sg) (seed : ByteArray) (x y : Int) (msg : ByteArray) (hs : seed.size ≤ 140737488351232) (hx : -9223372036854775808 ≤ x ∧ x ≤ 9223372036854775807) (hy : -9223372036854775808 ≤ y ∧ y ≤ 9223372036854775807) (hm : msg.size ≤ 140737488351232) (w : World) (hT : Tab w) :
    Calls Tryd.prog 7 #[.string seed, .int .i64 x, .int .i64 y, .string msg] w fun e w' => e = .returned (.bool true) ∧ Below w.heap.size w w' := by
  by_cases h0 : x < 0
  · exact ends_low R seed x y msg hs hx hy hm w hT h0
  · by_cases h7 : 7 < x
    · exact ends_high R seed x y msg hs hx hy hm w hT h7
    · by_cases h3 : 3 < x
      · exact ends_mid R seed x y msg hs hx hy hm w hT h3 (by omega)
      · exact ends_small R seed x y msg hs hx hy hm w hT x.toNat (by omega) (by omega)
end Go.Proofs.YtnbaoihamjdjdaaDoor.Sp
