/- The walk of SignerWhole. -/
import Derived.Test.YtnbaoihamjdjdaaDoorSigAwake
import Derived.Test.YtnbaoihamjdjdaaDoorSigPick
namespace Go.Proofs.YtnbaoihamjdjdaaDoor.Sp
open Go Go.RowKit
set_option maxRecDepth 100000
variable {Sg : World → (Nat → Prop) → Nat → ByteArray → Nat → Nat → Prop}

set_option maxHeartbeats 4000000 in
theorem whole_law (R : SigR Sg) (x : Int) (msg : ByteArray) (y : Int) (more : ByteArray) (hx : -9223372036854775808 ≤ x ∧ x ≤ 9223372036854775807) (hm : msg.size ≤ 140737488351232) (hy : -9223372036854775808 ≤ y ∧ y ≤ 9223372036854775807) (hr : more.size ≤ 140737488351232) (w : World) (hT : Tab w) :
    Calls Tryd.prog 5 #[.int .i64 x, .string msg, .int .i64 y, .string more] w fun e w' => e = .returned (.bool true) ∧ Below w.heap.size w w' := by
  obtain ⟨h, h4, p1⟩ := pick_any x 4 (by omega) (by omega) hx.1 hx.2
  obtain ⟨seed, hseed⟩ : ∃ seed : ByteArray, seed = ⟨#[115, 101, 101, 100]⟩ := ⟨_, rfl⟩
  have hss : seed.size ≤ 140737488351232 := by rw [hseed]; decide
  obtain ⟨K, hK⟩ : ∃ K, keyB seed h = K := ⟨_, rfl⟩
  obtain ⟨A, hA⟩ : ∃ A, sigB seed h 0 msg = A := ⟨_, rfl⟩
  have h2 : 0 < 2 ^ h := Nat.pow_pos (by omega)
  have hKs : K.size = 40 := by rw [← hK]; exact key_size _ _
  have hAs : A.size = 172 + 36 * h := by rw [← hA]; exact sig_size _ _ _ _ h2
  obtain ⟨n, hn⟩ : ∃ n, 172 + 36 * h = n := ⟨_, rfl⟩
  rw [hn] at hAs
  have hn9 : 172 ≤ n ∧ n ≤ 280 := by omega
  obtain ⟨r, rn, p2⟩ := pick_any y n (by omega) (by omega) hy.1 hy.2
  obtain ⟨q, q40, p3⟩ := pick_any y 40 (by omega) (by omega) hy.1 hy.2
  obtain ⟨C, hC⟩ : ∃ C, A.extract 0 r = C := ⟨_, rfl⟩
  have hCs : C.size = r := by rw [← hC, ByteArray.size_extract]; omega
  obtain ⟨M, hM⟩ : ∃ M, A ++ more = M := ⟨_, rfl⟩
  have hMs : M.size = n + more.size := by rw [← hM, ByteArray.size_append, hAs]
  obtain ⟨X, hX⟩ : ∃ X : ByteArray, M ++ ⟨#[120]⟩ = X := ⟨_, rfl⟩
  have hXs : X.size = n + more.size + 1 := by rw [← hX, ByteArray.size_append, hMs]; rfl
  obtain ⟨Q, hQ⟩ : ∃ Q, K.extract 0 q = Q := ⟨_, rfl⟩
  have hQs : Q.size = q := by rw [← hQ, ByteArray.size_extract]; omega
  have v1 : verB K msg A = true := verB_yes (by rw [← hK, ← hA]; exact valid_sign _ h 0 _ (by omega) h2)
  have v2 : verB K msg C = false := verB_no (fun v => by rw [← hK] at v; have := valid_size _ h (by omega) _ _ v; omega)
  have v3 : verB K msg X = false := verB_no (fun v => by rw [← hK] at v; have := valid_size _ h (by omega) _ _ v; omega)
  have v4 : verB Q msg A = false := verB_no (fun v => by have := valid_pub _ _ _ v; omega)
  have HT := Lib.hid hT
  have H1 := Lib.hid (R.verify K msg A · (by omega) hm (by omega))
  have H2 := Lib.hid (R.verify K msg C · (by omega) hm (by omega))
  have H3 := Lib.hid (R.verify K msg X · (by omega) hm (by omega))
  have H4 := Lib.hid (R.verify Q msg A · (by omega) hm (by omega))
  rw [v1] at H1
  rw [v2] at H2
  rw [v3] at H3
  rw [v4] at H4
  have HK := Lib.hid hK
  have HA := Lib.hid hA
  have P1 := Lib.hid p1
  have P2 := Lib.hid p2
  have P3 := Lib.hid p3
  have hKi : (K.size : Int) = 40 := by omega
  have hAi : (A.size : Int) = (n : Int) := by omega
  have hri : (r : Int) ≤ (A.size : Int) := by omega
  have hr0 : (0 : Int) ≤ (r : Int) := by omega
  have hqi : (q : Int) ≤ (K.size : Int) := by omega
  have hq0 : (0 : Int) ≤ (q : Int) := by omega
  have hni : ¬ (n : Int) < 9 := by omega
  have c1 : ¬ 9223372036854775807 < A.size + more.size := by omega
  have c2 : ¬ 9223372036854775807 < M.size + 1 := by omega
  clear hT v1 v2 v3 v4 p1 p2 p3 hK hA hn hCs hMs hXs hQs
  go_enter Tryd.func5, Tryd.ntmps5
  go_wp2_with fail
  refine (awake_any R w HT.out).mono ?_
  rintro e w0 ⟨rfl, h0⟩
  have B0 := Lib.hid h0
  have T0 := Lib.hid (tab_below HT.out h0)
  clear h0
  go_wp2_with fail
  refine (P1.out _).mono ?_
  rintro e v1 ⟨rfl, rfl⟩
  go_wp2_with fail
  rw [← hseed]
  refine (R.new_ok seed h 0 _ hss (by omega) (by omega) T0.out).mono ?_
  rintro e w1 ⟨g1, G1, rfl, s1, f1, h1⟩
  have S1 := Lib.hid s1
  have B1 := Lib.hid (B0.out.trans (h1.mono B0.out.size))
  have bs1 := B0.out.size
  have F1 := Lib.hid (fun q (hq : G1 q) => Nat.le_trans bs1 (f1 q hq))
  have T1 := Lib.hid (tab_below HT.out B1.out)
  clear s1 f1 h1 bs1
  go_wp2_with fail
  have P2 := R.pub w1 G1 g1 seed h 0 S1.out T1.out
  rw [HK.out] at P2
  refine P2.mono ?_
  rintro e w2 ⟨G2, rfl, s2, t2, i2⟩
  have S2 := Lib.hid s2
  have B2 := Lib.hid (t2.below B1.out F1.out B1.out.size)
  have F2 := Lib.hid (i2.from F1.out B1.out.size)
  have T2 := Lib.hid (tab_below HT.out B2.out)
  clear s2 t2 i2 P2
  go_wp2_with fail
  have P3 := R.sign_ok w2 G2 g1 seed h 0 msg S2.out h2 hm T2.out
  rw [HA.out] at P3
  refine P3.mono ?_
  rintro e w3 ⟨G3, rfl, s3, t3, i3⟩
  have S3 := Lib.hid s3
  have B3 := Lib.hid (t3.below B2.out F2.out B2.out.size)
  have F3 := Lib.hid (i3.from F2.out B2.out.size)
  have T3 := Lib.hid (tab_below HT.out B3.out)
  clear s3 t3 i3 P3
  go_wp2_with fail
  refine (H1.out w3 T3.out).mono ?_
  rintro e w4 ⟨rfl, h4⟩
  have B4 := Lib.hid (B3.out.trans (h4.mono B3.out.size))
  have T4 := Lib.hid (tab_below HT.out B4.out)
  clear h4
  go_wp2_with fail
  refine (P2.out _).mono ?_
  rintro e v2 ⟨rfl, rfl⟩
  go_wp2_with fail
  refine (H2.out _ T4.out).mono ?_
  rintro e w5 ⟨rfl, h5⟩
  have B5 := Lib.hid (B4.out.trans (h5.mono B4.out.size))
  have T5 := Lib.hid (tab_below HT.out B5.out)
  clear h5
  go_wp2_with fail
  refine (H3.out w5 T5.out).mono ?_
  rintro e w6 ⟨rfl, h6⟩
  have B6 := Lib.hid (B5.out.trans (h6.mono B5.out.size))
  have T6 := Lib.hid (tab_below HT.out B6.out)
  clear h6
  go_wp2_with fail
  refine (P3.out _).mono ?_
  rintro e v3 ⟨rfl, rfl⟩
  go_wp2_with fail
  refine (H4.out _ T6.out).mono ?_
  rintro e w7 ⟨rfl, h7⟩
  have B7 := Lib.hid (B6.out.trans (h7.mono B6.out.size))
  have T7 := Lib.hid (tab_below HT.out B7.out)
  clear h7
  go_wp2_with fail
  go_ret
  exact ⟨rfl, B7.out⟩
end Go.Proofs.YtnbaoihamjdjdaaDoor.Sp
