/- The statements of package signer: their first calls. -/
import Derived.Test.YtnbaoihamjdjdaaGreatDoorSigR
import Derived.Deep.RegionHeld3
import Derived.WalkLawsBesides
namespace Go.Proofs.YtnbaoihamjdjdaaGreatDoor.Sp
open Go Go.RowKit
set_option maxRecDepth 100000
variable {Sg : World → (Nat → Prop) → Nat → ByteArray → Nat → Nat → Prop}

set_option maxHeartbeats 2000000 in
theorem awake_any (R : SigR Sg) (w : World) (hT : Tab w) :
    Calls Tryz.prog 5 #[] w fun e w' => e = .returned (.bool true) ∧ Below w.heap.size w w' := by
  obtain ⟨K, hK⟩ : ∃ K, keyB ⟨#[115]⟩ 1 = K := ⟨_, rfl⟩
  obtain ⟨A, hA⟩ : ∃ A, sigB ⟨#[115]⟩ 1 0 ⟨#[109]⟩ = A := ⟨_, rfl⟩
  obtain ⟨B, hB⟩ : ∃ B, sigB ⟨#[115]⟩ 1 1 ⟨#[110]⟩ = B := ⟨_, rfl⟩
  have hKs : K.size = 40 := by rw [← hK]; exact key_size _ _
  have hAs : A.size = 208 := by rw [← hA]; exact sig_size _ _ _ _ (by decide)
  have hBs : B.size = 208 := by rw [← hB]; exact sig_size _ _ _ _ (by decide)
  have v1 : verB K ⟨#[109]⟩ A = true := verB_yes (by rw [← hK, ← hA]; exact valid_sign _ 1 0 _ (by omega) (by decide))
  have v2 : verB K ⟨#[110]⟩ B = true := verB_yes (by rw [← hK, ← hB]; exact valid_sign _ 1 1 _ (by omega) (by decide))
  have v3 : verB K ⟨#[110]⟩ A = false := verB_no (by rw [← hK, ← hA]; exact alien_no)
  have HT := Lib.hid hT
  have H1 := Lib.hid (R.verify K ⟨#[109]⟩ A · (by omega) (by decide) (by omega))
  have H2 := Lib.hid (R.verify K ⟨#[110]⟩ B · (by omega) (by decide) (by omega))
  have H3 := Lib.hid (R.verify K ⟨#[110]⟩ A · (by omega) (by decide) (by omega))
  rw [v1] at H1
  rw [v2] at H2
  rw [v3] at H3
  have hKi : (K.size : Int) = 40 := by omega
  clear hT v1 v2 v3 hAs hBs hKs
  go_enter Tryz.func5, Tryz.ntmps5
  go_wp2_with fail
  refine (R.new_ok ⟨#[115]⟩ 1 0 w (by decide) (by omega) (by decide) HT.out).mono ?_
  rintro e w1 ⟨g, F1, rfl, s1, f1, h1⟩
  have S1 := Lib.hid s1
  have F1' := Lib.hid f1
  have B1 := Lib.hid h1
  have T1 := Lib.hid (tab_below HT.out h1)
  clear s1 f1 h1
  go_wp2_with fail
  refine (R.new_no ⟨#[115]⟩ 8 0 w1 (by decide) (by omega) (by omega) (.inr (.inl (by omega))) T1.out).mono ?_
  rintro e w2 ⟨rfl, h2⟩
  have B2 := Lib.hid (B1.out.trans (h2.mono B1.out.size))
  have T2 := Lib.hid (tab_below HT.out B2.out)
  have S2 := Lib.hid (R.below S1.out h2)
  have F2 := Lib.hid F1'.out
  clear h2
  go_wp2_with fail
  have P3 := R.sign_ok w2 F1 g ⟨#[115]⟩ 1 0 ⟨#[109]⟩ S2.out (by decide) (by decide) T2.out
  rw [hA] at P3
  refine P3.mono ?_
  rintro e w3 ⟨G3, rfl, s3, t3, i3⟩
  have S3 := Lib.hid s3
  have B3 := Lib.hid (t3.below B2.out F2.out B2.out.size)
  have F3 := Lib.hid (i3.from F2.out B2.out.size)
  have T3 := Lib.hid (tab_below HT.out B3.out)
  clear s3 t3 i3
  go_wp2_with fail
  have P4 := R.sign_ok w3 G3 g ⟨#[115]⟩ 1 1 ⟨#[110]⟩ S3.out (by decide) (by decide) T3.out
  rw [hB] at P4
  refine P4.mono ?_
  rintro e w4 ⟨G4, rfl, s4, t4, i4⟩
  have S4 := Lib.hid s4
  have B4 := Lib.hid (t4.below B3.out F3.out B3.out.size)
  have F4 := Lib.hid (i4.from F3.out B3.out.size)
  have T4 := Lib.hid (tab_below HT.out B4.out)
  clear s4 t4 i4
  go_wp2_with fail
  refine (R.sign_no w4 G4 g ⟨#[115]⟩ 1 2 ⟨#[109]⟩ S4.out (by decide) (by decide) T4.out).mono ?_
  rintro e w5 ⟨G5, rfl, s5, t5, i5⟩
  have S5 := Lib.hid s5
  have B5 := Lib.hid (t5.below B4.out F4.out B4.out.size)
  have F5 := Lib.hid (i5.from F4.out B4.out.size)
  have T5 := Lib.hid (tab_below HT.out B5.out)
  clear s5 t5 i5
  go_wp2_with fail
  have P6 := R.pub w5 G5 g ⟨#[115]⟩ 1 2 S5.out T5.out
  rw [hK] at P6
  refine P6.mono ?_
  rintro e w6 ⟨G6, rfl, s6, t6, i6⟩
  have S6 := Lib.hid s6
  have B6 := Lib.hid (t6.below B5.out F5.out B5.out.size)
  have F6 := Lib.hid (i6.from F5.out B5.out.size)
  have T6 := Lib.hid (tab_below HT.out B6.out)
  clear s6 t6 i6
  go_wp2_with fail
  refine (R.spent w6 G6 g ⟨#[115]⟩ 1 2 S6.out T6.out).mono ?_
  rintro e w7 ⟨G7, rfl, s7, t7, i7⟩
  have S7 := Lib.hid s7
  have B7 := Lib.hid (t7.below B6.out F6.out B6.out.size)
  have F7 := Lib.hid (i7.from F6.out B6.out.size)
  have T7 := Lib.hid (tab_below HT.out B7.out)
  clear s7 t7 i7
  go_wp2_with fail
  refine (H1.out w7 T7.out).mono ?_
  rintro e w8 ⟨rfl, h8⟩
  have B8 := Lib.hid (B7.out.trans (h8.mono B7.out.size))
  have T8 := Lib.hid (tab_below HT.out B8.out)
  clear h8
  go_wp2_with fail
  refine (H2.out w8 T8.out).mono ?_
  rintro e w9 ⟨rfl, h9⟩
  have B9 := Lib.hid (B8.out.trans (h9.mono B8.out.size))
  have T9 := Lib.hid (tab_below HT.out B9.out)
  clear h9
  go_wp2_with fail
  refine (H3.out w9 T9.out).mono ?_
  rintro e w10 ⟨rfl, h10⟩
  have B10 := Lib.hid (B9.out.trans (h10.mono B9.out.size))
  have T10 := Lib.hid (tab_below HT.out B10.out)
  clear h10
  go_wp2_with fail
  go_ret
  exact ⟨rfl, B10.out⟩
end Go.Proofs.YtnbaoihamjdjdaaGreatDoor.Sp
