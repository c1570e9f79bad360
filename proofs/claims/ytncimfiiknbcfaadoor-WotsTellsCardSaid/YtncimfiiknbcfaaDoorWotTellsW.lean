/- The walk of WotsTells. -/
import Derived.Test.YtncimfiiknbcfaaDoorWotAwake
import Derived.Test.YtncimfiiknbcfaaDoorWotQP
import Derived.Test.YtncimfiiknbcfaaDoorWotInts
namespace Go.Proofs.YtncimfiiknbcfaaDoor.Sp
open Go Go.RowKit

set_option maxHeartbeats 1000000 in
theorem tells_law (seed : ByteArray) (l : Int) (msg sig : ByteArray) (hl : -9223372036854775808 ≤ l ∧ l ≤ 9223372036854775807) (hs : seed.size ≤ 140737488351232) (hm : msg.size ≤ 140737488351232) (hg : sig.size ≤ 9223372036854775807) (w : World) (hT : Tab w) (hK : Tabs w) :
    Calls Tryd.prog 3 #[.string seed, .int .i64 l, .string msg, .string sig] w fun e w' => e = .returned (.bool true) ∧ Below w.heap.size w w' := by
  obtain ⟨P, hP⟩ : ∃ P, publicB seed l = P := ⟨_, rfl⟩
  obtain ⟨G, hG⟩ : ∃ G, signB seed l msg = G := ⟨_, rfl⟩
  obtain ⟨F, hF⟩ : ∃ F, fromB sig msg = F := ⟨_, rfl⟩
  have H1 := Lib.hid (wpublic_any seed l hl hs)
  have H2 := Lib.hid (qpublic_any seed l hl hs)
  have H3 := Lib.hid (wsign_any seed l msg hl hs hm)
  have H4 := Lib.hid (qsign_any seed l msg hl hs hm)
  have H5 := Lib.hid (wfrom_any sig msg hg hm)
  have H6 := Lib.hid (qfrom_any sig msg hg hm)
  rw [hP] at H1 H2
  rw [hG] at H3 H4
  rw [hF] at H5 H6
  have HT := Lib.hid hT
  have HK := Lib.hid hK
  clear hT hK hP hG hF
  go_enter Tryd.func3, Tryd.ntmps3
  go_wp2_with fail
  refine (awake_any w HT.out).mono ?_
  rintro e w0 ⟨rfl, h0⟩
  have B0 := Lib.hid h0
  clear h0
  go_wp2_with fail
  refine (wdigits_any msg hm w0 (tab_below HT.out B0.out)).mono ?_
  rintro e w1 ⟨a, ca, rfl, c1, h1⟩
  have B1 := Lib.hid (B0.out.trans (h1.mono B0.out.size))
  have C1 := Lib.hid c1
  clear h1 c1
  go_wp2_with fail
  refine (qdigits_any msg hm w1 (HK.out.below B1.out)).mono ?_
  rintro e w2 ⟨b, cb, rfl, c2, h2⟩
  have B2 := Lib.hid (B1.out.trans (h2.mono B1.out.size))
  have C2 := Lib.hid c2
  have C3 := Lib.hid (C1.out.below_ h2)
  clear h2 c2 C1
  go_wp2_with fail
  refine (ints_any _ _ a b ca cb w2 C3.out C2.out true ⟨fun _ _ _ => rfl, fun _ => rfl⟩).mono ?_
  rintro e w3 ⟨rfl, h3⟩
  have B3 := Lib.hid (B2.out.trans (h3.mono B2.out.size))
  clear h3
  go_wp2_with fail
  refine (H1.out w3 (tab_below HT.out B3.out)).mono ?_
  rintro e w4 ⟨rfl, h4⟩
  have B4 := Lib.hid (B3.out.trans (h4.mono B3.out.size))
  clear h4
  go_wp2_with fail
  refine (H2.out w4 (HK.out.below B4.out)).mono ?_
  rintro e w5 ⟨rfl, h5⟩
  have B5 := Lib.hid (B4.out.trans (h5.mono B4.out.size))
  clear h5
  go_wp2_with fail
  refine (H3.out w5 (tab_below HT.out B5.out)).mono ?_
  rintro e w6 ⟨rfl, h6⟩
  have B6 := Lib.hid (B5.out.trans (h6.mono B5.out.size))
  clear h6
  go_wp2_with fail
  refine (H4.out w6 (HK.out.below B6.out)).mono ?_
  rintro e w7 ⟨rfl, h7⟩
  have B7 := Lib.hid (B6.out.trans (h7.mono B6.out.size))
  clear h7
  go_wp2_with fail
  refine (H5.out w7 (tab_below HT.out B7.out)).mono ?_
  rintro e w8 ⟨rfl, h8⟩
  have B8 := Lib.hid (B7.out.trans (h8.mono B7.out.size))
  clear h8
  go_wp2_with fail
  refine (H6.out w8 (HK.out.below B8.out)).mono ?_
  rintro e w9 ⟨rfl, h9⟩
  have B9 := Lib.hid (B8.out.trans (h9.mono B8.out.size))
  clear h9
  go_wp2_with fail
  go_ret
  exact ⟨rfl, B9.out⟩
end Go.Proofs.YtncimfiiknbcfaaDoor.Sp
