/- The walk of SignerVerifies. -/
import Derived.Test.YtnbaoihamjdjdaaGreatDoorSigAwake
import Derived.Test.YtnbaoihamjdjdaaGreatDoorSigPick
import Derived.Test.YtnbaoihamjdjdaaGreatDoorSigZ
import Derived.Test.YtnbaoihamjdjdaaGreatDoorSigVerA
import Derived.BigQuiet
namespace Go.Proofs.YtnbaoihamjdjdaaGreatDoor.Sp
open Go Go.RowKit
set_option maxRecDepth 100000
variable {Sg : World → (Nat → Prop) → Nat → ByteArray → Nat → Nat → Prop}

theorem Sq.below_ {w w' : World} {F : Nat → Prop} {g : Nat} {seed : ByteArray} {h n : Nat} (s : Sq w F g seed h n) (hb : Below w.heap.size w w') : Sq w' F g seed h n := s.keep (fun k hk => hb.block k (s.lt k hk)) hb.size

set_option maxHeartbeats 8000000 in
theorem verifies_law (R : SigR Sg) (p0 msg sig : ByteArray) (x y z : Int) (more : ByteArray) (hp : p0.size ≤ 140737488351232) (hm : msg.size ≤ 140737488351232) (hs : sig.size ≤ 140737488351232) (hx : -9223372036854775808 ≤ x ∧ x ≤ 9223372036854775807) (hy : -9223372036854775808 ≤ y ∧ y ≤ 9223372036854775807) (hz : -9223372036854775808 ≤ z ∧ z ≤ 9223372036854775807) (hr : more.size ≤ 140737488351232) (w : World) (hT : Tab w) (hU : Tabs w) :
    Calls Tryz.prog 4 #[.string p0, .string msg, .string sig, .int .i64 x, .int .i64 y, .int .i64 z, .string more] w fun e w' => e = .returned (.bool true) ∧ Below w.heap.size w w' := by
  obtain ⟨h, h4, p1⟩ := pick_any x 4 (by omega) (by omega) hx.1 hx.2
  obtain ⟨seed, hseed⟩ : ∃ seed : ByteArray, seed = ⟨#[115, 101, 101, 100]⟩ := ⟨_, rfl⟩
  have hss : seed.size ≤ 140737488351232 := by rw [hseed]; decide
  have h2 : 0 < 2 ^ h := Nat.pow_pos (by omega)
  have h8 : 2 ^ h ≤ 8 := Nat.le_trans (Nat.pow_le_pow_right (by omega) (show h ≤ 3 by omega)) (by decide)
  obtain ⟨M, hM⟩ : ∃ M : Nat, 2 ^ h = M := ⟨_, rfl⟩
  obtain ⟨i, hi, p2⟩ := pick_any y (2 ^ h) h2 (by omega) hy.1 hy.2
  have hMi : (2 : Int) ^ h = (M : Int) := by rw [← hM]; simp
  have hMw : IntKind.i64.wrap (M : Int) = (M : Int) := by rw [IntKind.wrap_i64]; omega
  rw [hM] at p2
  obtain ⟨K, hK⟩ : ∃ K, keyB seed h = K := ⟨_, rfl⟩
  obtain ⟨A, hA⟩ : ∃ A, sigB seed h i msg = A := ⟨_, rfl⟩
  have hKs : K.size = 40 := by rw [← hK]; exact key_size _ _
  have hAs : A.size = 172 + 36 * h := by rw [← hA]; exact sig_size _ _ _ _ hi
  obtain ⟨n, hn⟩ : ∃ n, 172 + 36 * h = n := ⟨_, rfl⟩
  rw [hn] at hAs
  have hn9 : 172 ≤ n ∧ n ≤ 280 := by omega
  obtain ⟨r, rn, p3⟩ := pick_any z n (by omega) (by omega) hz.1 hz.2
  obtain ⟨C, hC⟩ : ∃ C, A.extract 0 r = C := ⟨_, rfl⟩
  have hCs : C.size = r := by rw [← hC, ByteArray.size_extract]; omega
  obtain ⟨C2, hC2⟩ : ∃ C2, C ++ more = C2 := ⟨_, rfl⟩
  have hC2s : C2.size = r + more.size := by rw [← hC2, ByteArray.size_append, hCs]
  obtain ⟨j, hj⟩ : ∃ j : Nat, min (r + more.size) n = j := ⟨_, rfl⟩
  have hjn : j ≤ n := by omega
  obtain ⟨C3, hC3⟩ : ∃ C3, A.extract j A.size = C3 := ⟨_, rfl⟩
  have hC3b : A.extract j n = C3 := by rw [← hC3, hAs]
  have hC3s : C3.size = n - j := by rw [← hC3, ByteArray.size_extract]; omega
  obtain ⟨D, hD⟩ : ∃ D, C2 ++ C3 = D := ⟨_, rfl⟩
  have hDs : D.size = r + more.size + (n - j) := by rw [← hD, ByteArray.size_append, hC2s, hC3s]
  have v1 : verB K msg A = true := verB_yes (by rw [← hK, ← hA]; exact valid_sign _ h i _ (by omega) hi)
  have HT := Lib.hid hT
  have HU := Lib.hid hU
  have V0 := Lib.hid (R.verify p0 msg sig · (by omega) hm (by omega))
  have W0 := Lib.hid (qver_any p0 msg sig · (by omega) hm (by omega))
  have V1 := Lib.hid (R.verify K msg A · (by omega) hm (by omega))
  rw [v1] at V1
  have V2 := Lib.hid (R.verify K msg D · (by omega) hm (by omega))
  have W2 := Lib.hid (qver_any K msg D · (by omega) hm (by omega))
  have V3 := Lib.hid (R.verify K sig A · (by omega) hs (by omega))
  have W3 := Lib.hid (qver_any K sig A · (by omega) hs (by omega))
  obtain ⟨b0, hb0⟩ : ∃ b0, verB p0 msg sig = b0 := ⟨_, rfl⟩
  obtain ⟨b2, hb2⟩ : ∃ b2, verB K msg D = b2 := ⟨_, rfl⟩
  obtain ⟨b3, hb3⟩ : ∃ b3, verB K sig A = b3 := ⟨_, rfl⟩
  rw [hb0] at V0 W0
  rw [hb2] at V2 W2
  rw [hb3] at V3 W3
  have hkey := fun (w : World) (F : Nat → Prop) (g n : Nat) (s : Sq w F g seed h n) (t : Tabs w) => qpub_any w F g seed h n s (by omega) t
  rw [hK] at hkey
  have HKy := Lib.hid hkey
  have hsig := fun (w : World) (F : Nat → Prop) (g : Nat) (s : Sq w F g seed h i) (t : Tabs w) => qsign_ok w F g seed h i msg s (by omega) hi hss hm t
  rw [hA] at hsig
  have HSg := Lib.hid hsig
  have hnew := fun (w : World) (t : Tabs w) => qnew_ok seed h i w hss (by omega) (by omega) t
  have HNw := Lib.hid hnew
  have P1 := Lib.hid p1
  have P2 := Lib.hid p2
  have P3 := Lib.hid p3
  have hAi : (A.size : Int) = (n : Int) := by omega
  have hri : (r : Int) ≤ (A.size : Int) := by omega
  have hr0 : (0 : Int) ≤ (r : Int) := by omega
  have hh0 : (0 : Int) ≤ (h : Int) := by omega
  have c1 : ¬ 9223372036854775807 < C.size + more.size := by omega
  have c2 : ¬ 9223372036854775807 < C2.size + C3.size := by omega
  obtain ⟨S0, hS0⟩ : ∃ S0, r + more.size = S0 := ⟨_, rfl⟩
  have hsum : IntKind.i64.wrap ((r : Int) + (more.size : Int)) = (S0 : Int) := by rw [IntKind.wrap_i64]; omega
  have hmin2 : (if (n : Int) < (S0 : Int) then (n : Int) else (S0 : Int)) = (j : Int) := by split <;> omega
  have hmin3 : (if n < S0 then (n : Int) else (S0 : Int)) = (j : Int) := by split <;> omega
  clear hS0
  have hj0 : (0 : Int) ≤ (j : Int) := by omega
  have hji : (j : Int) ≤ (A.size : Int) := by omega
  have hri2 : (r : Int) ≤ (n : Int) := by omega
  have hri3 : r ≤ n := by omega
  have hjn2 : (j : Int) ≤ (n : Int) := by omega
  have hmoi : (more.size : Int) ≤ 9223372036854775807 := by omega
  clear hT hU v1 p1 p2 p3 hK hA hn hM hkey hsig hnew hb0 hb2 hb3 hC2s hC3s hDs hCs h2 h8 hi hj
  go_enter Tryz.func4, Tryz.ntmps4
  go_wp2_with fail
  refine (awake_any R w HT.out).mono ?_
  rintro e w0 ⟨rfl, h0⟩
  have B0 := Lib.hid h0
  have T0 := Lib.hid (tab_below HT.out h0)
  clear h0
  go_wp2_with fail
  refine (V0.out w0 T0.out).mono ?_
  rintro e w1 ⟨rfl, h1⟩
  have B1 := Lib.hid (B0.out.trans (h1.mono B0.out.size))
  have U1 := Lib.hid (HU.out.below B1.out)
  clear h1
  go_wp2_with fail
  refine (W0.out w1 U1.out).mono ?_
  rintro e w2 ⟨rfl, h2⟩
  have B2 := Lib.hid (B1.out.trans (h2.mono B1.out.size))
  have U2 := Lib.hid (HU.out.below B2.out)
  clear h2
  go_wp2_with fail
  refine (P1.out _).mono ?_
  rintro e v1 ⟨rfl, rfl⟩
  go_wp2_with fail
  refine (P2.out _).mono ?_
  rintro e v2 ⟨rfl, rfl⟩
  go_wp2_with fail
  rw [← hseed]
  refine (HNw.out w2 U2.out).mono ?_
  rintro e w3 ⟨g, G, rfl, s3, f3, h3⟩
  have S3 := Lib.hid s3
  have B3 := Lib.hid (B2.out.trans (h3.mono B2.out.size))
  have F3 := Lib.hid (fun q (hq : G q) => Nat.le_trans B2.out.size (f3 q hq))
  have U3 := Lib.hid (HU.out.below B3.out)
  clear s3 f3 h3
  go_wp2_with fail
  refine (HSg.out w3 G g S3.out U3.out).mono ?_
  rintro e w4 ⟨G4, rfl, s4, t4, i4⟩
  have S4 := Lib.hid s4
  have B4 := Lib.hid (t4.below B3.out F3.out B3.out.size)
  have U4 := Lib.hid (HU.out.below B4.out)
  clear s4 t4 i4
  go_wp2_with fail
  refine (P3.out _).mono ?_
  rintro e v3 ⟨rfl, rfl⟩
  go_wp2_with fail
  go_region_held3 (fun _ => True) (trivial) (fail)
  go_wp2_with fail
  have S5 := Lib.hid (show Sq w4.drew G4 g seed h (i + 1) from S4.out.keep (fun _ _ => rfl) (Nat.le_refl _))
  have B5 := Lib.hid (show Below w.heap.size w w4.drew from B4.out.drew)
  have U5 := Lib.hid (show Tabs w4.drew from U4.out.drew_)
  obtain ⟨w5, hw5⟩ : ∃ w5, w4.drew = w5 := ⟨_, rfl⟩
  rw [hw5] at S5 B5 U5 ⊢
  clear hw5
  refine (HKy.out w5 G4 g (i + 1) S5.out U5.out).mono ?_
  rintro e w6 ⟨rfl, h6⟩
  have B6 := Lib.hid (B5.out.trans (h6.mono B5.out.size))
  clear h6
  have X6 := Lib.hid (tab_below HT.out B6.out)
  go_wp2_with fail
  refine (V1.out w6 X6.out).mono ?_
  rintro e w7 ⟨rfl, h7⟩
  have B7 := Lib.hid (B6.out.trans (h7.mono B6.out.size))
  clear h7
  have X7 := Lib.hid (tab_below HT.out B7.out)
  go_wp2_with fail
  refine (V2.out w7 X7.out).mono ?_
  rintro e w8 ⟨rfl, h8⟩
  have B8 := Lib.hid (B7.out.trans (h8.mono B7.out.size))
  clear h8
  have X8 := Lib.hid (HU.out.below B8.out)
  go_wp2_with fail
  refine (W2.out w8 X8.out).mono ?_
  rintro e w9 ⟨rfl, h9⟩
  have B9 := Lib.hid (B8.out.trans (h9.mono B8.out.size))
  clear h9
  have X9 := Lib.hid (tab_below HT.out B9.out)
  go_wp2_with fail
  refine (V3.out w9 X9.out).mono ?_
  rintro e w10 ⟨rfl, h10⟩
  have B10 := Lib.hid (B9.out.trans (h10.mono B9.out.size))
  clear h10
  have X10 := Lib.hid (HU.out.below B10.out)
  go_wp2_with fail
  refine (W3.out w10 X10.out).mono ?_
  rintro e w11 ⟨rfl, h11⟩
  have B11 := Lib.hid (B10.out.trans (h11.mono B10.out.size))
  clear h11
  go_wp2_with fail
  go_ret
  exact ⟨by simp, B11.out⟩
end Go.Proofs.YtnbaoihamjdjdaaGreatDoor.Sp
