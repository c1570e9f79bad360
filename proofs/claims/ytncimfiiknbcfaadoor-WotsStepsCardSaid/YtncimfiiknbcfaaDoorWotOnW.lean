/- The walk of WotsOn. -/
import Derived.Test.YtncimfiiknbcfaaDoorWotAwake
import Derived.Test.YtncimfiiknbcfaaDoorWotInts
namespace Go.Proofs.YtncimfiiknbcfaaDoor.Sp
open Go Go.RowKit

theorem walkB_le (c i j : Int) (v : ByteArray) (h : v.size ≤ 140737488351232) : (walkB c i j v).size ≤ 140737488351232 := by
  unfold walkB
  split
  · exact h
  · exact goB_le c i _ v _ h (by omega)

set_option maxHeartbeats 1000000 in
theorem on_law (c x y z : Int) (v : ByteArray) (hc : -9223372036854775808 ≤ c ∧ c ≤ 9223372036854775807) (hx : -9223372036854775808 ≤ x ∧ x ≤ 9223372036854775807) (hy : -9223372036854775808 ≤ y ∧ y ≤ 9223372036854775807) (hz : -9223372036854775808 ≤ z ∧ z ≤ 9223372036854775807) (hv : v.size ≤ 140737488351232) (w : World) (hT : Tab w) :
    Calls Tryd.prog 7 #[.int .i64 c, .int .i64 x, .int .i64 y, .int .i64 z, .string v] w fun e w' => e = .returned (.bool true) ∧ Below w.heap.size w w' := by
  obtain ⟨r1, hr1, p1⟩ := pick_any x 16 (by omega) (by omega) hx.1 hx.2
  obtain ⟨n2, hn2⟩ : ∃ n2, 16 - r1 = n2 := ⟨_, rfl⟩
  obtain ⟨r2, hr2, p2⟩ := pick_any y n2 (by omega) (by omega) hy.1 hy.2
  obtain ⟨b, hb⟩ : ∃ b, r1 + r2 = b := ⟨_, rfl⟩
  obtain ⟨n3, hn3⟩ : ∃ n3, 16 - b = n3 := ⟨_, rfl⟩
  obtain ⟨r3, hr3, p3⟩ := pick_any z n3 (by omega) (by omega) hz.1 hz.2
  obtain ⟨d, hd⟩ : ∃ d, b + r3 = d := ⟨_, rfl⟩
  have i2 : 16 - (r1 : Int) = (n2 : Int) := by omega
  have i3 : 16 - (b : Int) = (n3 : Int) := by omega
  have j2 : (r1 : Int) + (r2 : Int) = (b : Int) := by omega
  have j3 : (b : Int) + (r3 : Int) = (d : Int) := by omega
  obtain ⟨X, hX⟩ : ∃ X, walkB c (r1 : Int) (b : Int) v = X := ⟨_, rfl⟩
  have hXs : X.size ≤ 140737488351232 := by rw [← hX]; exact walkB_le _ _ _ _ hv
  obtain ⟨Z, hZ⟩ : ∃ Z, walkB c (r1 : Int) (d : Int) v = Z := ⟨_, rfl⟩
  have W1 := Lib.hid (wwalk_any c (r1 : Int) (b : Int) v hc (by omega) (by omega) hv)
  have W2 := Lib.hid (wwalk_any c (b : Int) (d : Int) X hc (by omega) (by omega) hXs)
  have W3 := Lib.hid (wwalk_any c (r1 : Int) (d : Int) v hc (by omega) (by omega) hv)
  have W4 := Lib.hid (wwalk_any c (b : Int) (b : Int) v hc (by omega) (by omega) hv)
  rw [hX] at W1
  rw [← hX, walk_on c r1 b d v (by omega) (by omega) (by omega), hX, hZ] at W2
  rw [hZ] at W3
  rw [walk_same c b v (by omega)] at W4
  have k2 : IntKind.i64.wrap (n2 : Int) = (n2 : Int) := by rw [IntKind.wrap_i64]; omega
  have k3 : IntKind.i64.wrap (n3 : Int) = (n3 : Int) := by rw [IntKind.wrap_i64]; omega
  have l2 : IntKind.i64.wrap (b : Int) = (b : Int) := by rw [IntKind.wrap_i64]; omega
  have l3 : IntKind.i64.wrap (d : Int) = (d : Int) := by rw [IntKind.wrap_i64]; omega
  have P1 := Lib.hid p1
  have P2 := Lib.hid p2
  have P3 := Lib.hid p3
  have HT := Lib.hid hT
  clear hT hX hZ hXs p1 p2 p3 hr1 hr2 hr3 hn2 hn3 hb hd
  go_enter Tryd.func7, Tryd.ntmps7
  go_wp2_with fail
  refine (awake_any w HT.out).mono ?_
  rintro e w0 ⟨rfl, h0⟩
  have T0 := Lib.hid (tab_below HT.out h0)
  have B0 := Lib.hid h0
  clear h0
  go_wp2_with fail
  refine (P1.out w0).mono ?_
  rintro e w1 ⟨rfl, rfl⟩
  go_wp2_with fail
  refine (P2.out _).mono ?_
  rintro e w1 ⟨rfl, rfl⟩
  go_wp2_with fail
  refine (P3.out _).mono ?_
  rintro e w1 ⟨rfl, rfl⟩
  go_wp2_with fail
  refine (W1.out _ T0.out).mono ?_
  rintro e w1 ⟨rfl, h1⟩
  have T1 := Lib.hid (tab_below T0.out h1)
  have B1 := Lib.hid (B0.out.trans (h1.mono B0.out.size))
  clear h1
  go_wp2_with fail
  refine (W2.out _ T1.out).mono ?_
  rintro e w2 ⟨rfl, h2⟩
  have T2 := Lib.hid (tab_below T1.out h2)
  have B2 := Lib.hid (B1.out.trans (h2.mono B1.out.size))
  clear h2
  go_wp2_with fail
  refine (W3.out _ T2.out).mono ?_
  rintro e w3 ⟨rfl, h3⟩
  have T3 := Lib.hid (tab_below T2.out h3)
  have B3 := Lib.hid (B2.out.trans (h3.mono B2.out.size))
  clear h3
  go_wp2_with fail
  refine (W4.out _ T3.out).mono ?_
  rintro e w4 ⟨rfl, h4⟩
  have B4 := Lib.hid (B3.out.trans (h4.mono B3.out.size))
  clear h4
  go_wp2_with fail
  go_ret
  exact ⟨rfl, B4.out⟩
end Go.Proofs.YtncimfiiknbcfaaDoor.Sp
