/- The walk of WotsWalks. -/
import Derived.Test.YtncimfiiknbcfaaDoorWotAwake
import Derived.Test.YtncimfiiknbcfaaDoorWotQ
namespace Go.Proofs.YtncimfiiknbcfaaDoor.Sp
open Go Go.RowKit

set_option maxHeartbeats 1000000 in
theorem walks_law (c i j : Int) (v : ByteArray) (hc : -9223372036854775808 ≤ c ∧ c ≤ 9223372036854775807) (hi : -9223372036854775808 ≤ i ∧ i ≤ 9223372036854775807) (hj : -9223372036854775808 ≤ j ∧ j ≤ 9223372036854775807) (hv : v.size ≤ 140737488351232) (w : World) (hT : Tab w) (hK : Tabs w) :
    Calls Tryd.prog 4 #[.int .i64 c, .int .i64 i, .int .i64 j, .string v] w fun e w' => e = .returned (.bool true) ∧ Below w.heap.size w w' := by
  obtain ⟨S, hS⟩ : ∃ S, stepB c i v = S := ⟨_, rfl⟩
  obtain ⟨W, hW⟩ : ∃ W, walkB c i j v = W := ⟨_, rfl⟩
  have H1 := Lib.hid (wstep_any c i v hc hi hv)
  have H2 := Lib.hid (qstep_any c i v hc hi hv)
  have H3 := Lib.hid (wwalk_any c i j v hc hi hj hv)
  have H4 := Lib.hid (qwalk_any c i j v hc hi hj hv)
  rw [hS] at H1 H2
  rw [hW] at H3 H4
  have HT := Lib.hid hT
  have HK := Lib.hid hK
  clear hT hK hS hW
  go_enter Tryd.func4, Tryd.ntmps4
  go_wp2_with fail
  refine (awake_any w HT.out).mono ?_
  rintro e w0 ⟨rfl, h0⟩
  have B0 := Lib.hid h0
  clear h0
  go_wp2_with fail
  refine (H1.out w0 (tab_below HT.out B0.out)).mono ?_
  rintro e w1 ⟨rfl, h1⟩
  have B1 := Lib.hid (B0.out.trans (h1.mono B0.out.size))
  clear h1
  go_wp2_with fail
  refine (H2.out w1 (HK.out.below B1.out)).mono ?_
  rintro e w2 ⟨rfl, h2⟩
  have B2 := Lib.hid (B1.out.trans (h2.mono B1.out.size))
  clear h2
  go_wp2_with fail
  refine (H3.out w2 (tab_below HT.out B2.out)).mono ?_
  rintro e w3 ⟨rfl, h3⟩
  have B3 := Lib.hid (B2.out.trans (h3.mono B2.out.size))
  clear h3
  go_wp2_with fail
  refine (H4.out w3 (HK.out.below B3.out)).mono ?_
  rintro e w4 ⟨rfl, h4⟩
  have B4 := Lib.hid (B3.out.trans (h4.mono B3.out.size))
  clear h4
  go_wp2_with fail
  go_ret
  exact ⟨rfl, B4.out⟩
end Go.Proofs.YtncimfiiknbcfaaDoor.Sp
