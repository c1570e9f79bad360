/- The walk of WotsBack. -/
import Derived.Test.YtncimfiiknbcfaaDoorWotAwake
namespace Go.Proofs.YtncimfiiknbcfaaDoor.Sp
open Go Go.RowKit

set_option maxHeartbeats 1000000 in
theorem back_law (seed : ByteArray) (l : Int) (msg : ByteArray) (hl : -9223372036854775808 ≤ l ∧ l ≤ 9223372036854775807) (hs : seed.size ≤ 140737488351232) (hm : msg.size ≤ 140737488351232) (w : World) (hT : Tab w) :
    Calls Tryd.prog 5 #[.string seed, .int .i64 l, .string msg] w fun e w' => e = .returned (.bool true) ∧ Below w.heap.size w w' := by
  obtain ⟨P, hP⟩ : ∃ P, publicB seed l = P := ⟨_, rfl⟩
  obtain ⟨G, hG⟩ : ∃ G, signB seed l msg = G := ⟨_, rfl⟩
  have hPs : P.size = 32 := by rw [← hP]; exact publicB_size _ _
  have hGs : G.size = 160 := by rw [← hG]; exact sign_size _ _ _
  have HF := Lib.hid (show fromB G msg = P from by rw [← hG, ← hP]; exact from_sign _ _ _)
  have H1 := Lib.hid (wpublic_any seed l hl hs)
  have H2 := Lib.hid (wsign_any seed l msg hl hs hm)
  have H3 := Lib.hid (wfrom_any G msg (by omega) hm)
  rw [hP] at H1
  rw [hG] at H2
  rw [HF.out] at H3
  have HT := Lib.hid hT
  clear hT hP hG
  go_enter Tryd.func5, Tryd.ntmps5
  go_wp2_with fail
  refine (awake_any w HT.out).mono ?_
  rintro e w0 ⟨rfl, h0⟩
  have T0 := Lib.hid (tab_below HT.out h0)
  have B0 := Lib.hid h0
  clear h0
  go_wp2_with fail
  refine (H1.out w0 T0.out).mono ?_
  rintro e w1 ⟨rfl, h1⟩
  have T1 := Lib.hid (tab_below T0.out h1)
  have B1 := Lib.hid (B0.out.trans (h1.mono B0.out.size))
  clear h1
  go_wp2_with fail
  refine (H2.out w1 T1.out).mono ?_
  rintro e w2 ⟨rfl, h2⟩
  have T2 := Lib.hid (tab_below T1.out h2)
  have B2 := Lib.hid (B1.out.trans (h2.mono B1.out.size))
  clear h2
  go_wp2_with fail
  refine (H3.out w2 T2.out).mono ?_
  rintro e w4 ⟨rfl, h4⟩
  have B4 := Lib.hid (B2.out.trans (h4.mono B2.out.size))
  clear h4
  go_wp2_with fail
  go_ret
  exact ⟨rfl, B4.out⟩
end Go.Proofs.YtncimfiiknbcfaaDoor.Sp
