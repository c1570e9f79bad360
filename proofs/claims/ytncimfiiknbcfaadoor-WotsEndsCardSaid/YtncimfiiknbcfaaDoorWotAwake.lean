/- The statements of package wots: their first calls, Ints, pick. (WotProg holds the contracts of the program's own calls.) -/
import Derived.Test.YtncimfiiknbcfaaDoorWotProg
import Derived.Deep.RegionHeld3
import Derived.WalkLawsBesides
namespace Go.Proofs.YtncimfiiknbcfaaDoor.Sp
open Go Go.RowKit

theorem publicB_size (seed : ByteArray) (l : Int) : (publicB seed l).size = 32 := by
  rw [← size_list]; exact sum_length _
theorem fromB_none (sig msg : ByteArray) (h : sig.size ≠ 160) : fromB sig msg = .empty := by rw [fromB, if_neg h]

set_option maxHeartbeats 1000000 in
theorem awake_any (w : World) (hT : Tab w) :
    Calls Tryd.prog 10 #[] w fun e w' => e = .returned (.bool true) ∧ Below w.heap.size w w' := by
  obtain ⟨P, hP⟩ : ∃ P, publicB ⟨#[115]⟩ 3 = P := ⟨_, rfl⟩
  obtain ⟨G, hG⟩ : ∃ G, signB ⟨#[115]⟩ 3 ⟨#[109]⟩ = G := ⟨_, rfl⟩
  have hPs : P.size = 32 := by rw [← hP]; exact publicB_size _ _
  have hGs : G.size = 160 := by rw [← hG]; exact sign_size _ _ _
  have HF := Lib.hid (show fromB G ⟨#[109]⟩ = P from by rw [← hG, ← hP]; exact from_sign _ _ _)
  have H1 := Lib.hid (wpublic_any ⟨#[115]⟩ 3 (by omega) (by decide))
  have H2 := Lib.hid (wsign_any ⟨#[115]⟩ 3 ⟨#[109]⟩ (by omega) (by decide) (by decide))
  have H3 := Lib.hid (wfrom_any G ⟨#[109]⟩ (by omega) (by decide))
  have H4 := Lib.hid (wfrom_any .empty ⟨#[109]⟩ (by decide) (by decide))
  rw [hP] at H1
  rw [hG] at H2
  rw [HF.out] at H3
  rw [fromB_none .empty _ (by decide)] at H4
  have HT := Lib.hid hT
  clear hT hP hG
  go_enter Tryd.func10, Tryd.ntmps10
  go_wp2_with fail
  refine (H1.out w HT.out).mono ?_
  rintro e w1 ⟨rfl, h1⟩
  have T1 := Lib.hid (tab_below HT.out h1)
  have B1 := Lib.hid h1
  clear h1
  go_wp2_with fail
  refine (H2.out w1 T1.out).mono ?_
  rintro e w2 ⟨rfl, h2⟩
  have T2 := Lib.hid (tab_below T1.out h2)
  have B2 := Lib.hid (B1.out.trans (h2.mono B1.out.size))
  clear h2
  go_wp2_with fail
  refine (wdigits_any ⟨#[109]⟩ (by decide) w2 T2.out).mono ?_
  rintro e w3 ⟨a, c, rfl, _, h3⟩
  have T3 := Lib.hid (tab_below T2.out h3)
  have B3 := Lib.hid (B2.out.trans (h3.mono B2.out.size))
  clear h3
  go_wp2_with fail
  refine (H3.out w3 T3.out).mono ?_
  rintro e w4 ⟨rfl, h4⟩
  have T4 := Lib.hid (tab_below T3.out h4)
  have B4 := Lib.hid (B3.out.trans (h4.mono B3.out.size))
  clear h4
  go_wp2_with fail
  refine (H4.out w4 T4.out).mono ?_
  rintro e w5 ⟨rfl, h5⟩
  have B5 := Lib.hid (B4.out.trans (h5.mono B4.out.size))
  clear h5
  go_wp2_with fail
  go_ret
  exact ⟨rfl, B5.out⟩
end Go.Proofs.YtncimfiiknbcfaaDoor.Sp
