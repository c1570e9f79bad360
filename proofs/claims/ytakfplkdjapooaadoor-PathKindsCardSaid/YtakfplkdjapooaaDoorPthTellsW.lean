/- The walk of PathTells. -/
import Derived.Test.YtakfplkdjapooaaDoorPthAwake
namespace Go.Proofs.YtakfplkdjapooaaDoor.Sp
open Go Go.RowKit

theorem cells3 {w : World} {g : Nat} {t : TypeId} {v0 v1 v2 : Value} (h : Blk w g t #[v0, v1, v2]) :
    w.cell? ⟨g, 0, none⟩ = some v0 ∧ w.cell? ⟨g, 1, none⟩ = some v1 ∧ w.cell? ⟨g, 2, none⟩ = some v2 := ⟨h.cell 0, h.cell 1, h.cell 2⟩

set_option maxRecDepth 100000 in
set_option maxHeartbeats 2000000 in
theorem tells_law (K : Int) (a b : Nat) (s : ByteArray) (ha : a < 18446744073709551616) (hb : b < 18446744073709551616) (hs : s.size ≤ 9223372036854775807) (w : World) (hT : Tens w) :
    Calls Tryd.prog 3 #[pathV K a b, .string s] w fun e w' => e = .returned (.bool true) ∧ Below w.heap.size w w' := by
  obtain ⟨X, E, hX⟩ := shown_ex K a b
  obtain ⟨k, c, d, F, hF⟩ := found_ex s.data.toList
  have HX := Lib.hid hX
  have HF := Lib.hid hF
  have HT := Lib.hid (tens_alloc hT (.cells #[.int .i64 K, .int .u64 (a : Int), .int .u64 (b : Int)] 24))
  have HA := Lib.hid ((Below.refl w.heap.size w).alloc (Nat.le_refl _) (.cells #[.int .i64 K, .int .u64 (a : Int), .int .u64 (b : Int)] 24))
  have HP := Lib.hid (Blk.new w 24 #[.int .i64 K, .int .u64 (a : Int), .int .u64 (b : Int)])
  clear hX hF hT
  obtain ⟨g, hg⟩ : ∃ g, w.heap.size = g := ⟨_, rfl⟩
  unfold pathV
  go_enter Tryd.func3, Tryd.ntmps3
  go_wp2_with fail
  refine (awake_any _ HT.out).mono ?_
  rintro e w1 ⟨rfl, h1⟩
  have T1 := Lib.hid (tens_below HT.out h1)
  have B1 := Lib.hid (HA.out.trans (h1.mono (by simp)))
  have P1 := Lib.hid (HP.out.below h1 HP.out.lt)
  rw [hg] at P1
  clear h1
  obtain ⟨c0, c1, c2⟩ := cells3 P1.out
  go_wp2_with fail
  refine (pr_at K a b X E HX.out ha hb w1 T1.out).mono ?_
  rintro e w2 ⟨rfl, h2⟩
  have T2 := Lib.hid (tens_below T1.out h2)
  have B2 := Lib.hid (B1.out.trans (h2.mono B1.out.size))
  have P2 := Lib.hid (P1.out.below h2 P1.out.lt)
  clear h2 c0 c1 c2
  obtain ⟨c0, c1, c2⟩ := cells3 P2.out
  go_wp2_with fail
  refine (qpr_any K a b X E HX.out ha hb w2).mono ?_
  rintro e w3 ⟨rfl, h3⟩
  have T3 := Lib.hid (tens_below T2.out h3)
  have B3 := Lib.hid (B2.out.trans (h3.mono B2.out.size))
  clear h3 c0 c1 c2
  go_wp2_with fail
  refine (pa_at s k c d F HF.out hs w3 T3.out).mono ?_
  rintro e w4 ⟨rfl, h4⟩
  unfold pathV
  have B4 := Lib.hid (B3.out.trans (h4.mono B3.out.size))
  clear h4
  go_wp2_with fail
  refine (qpa_at s k c d F HF.out hs _).mono ?_
  rintro e w5 ⟨rfl, h5⟩
  unfold pathV
  have Q5 := Lib.hid (Blk.below (Blk.new w4 24 #[.int .i64 (k : Int), .int .u64 (c : Int), .int .u64 (d : Int)]) h5 (by simp))
  have B5 := Lib.hid ((B4.out.alloc B4.out.size (.cells #[.int .i64 (k : Int), .int .u64 (c : Int), .int .u64 (d : Int)] 24)).trans (h5.mono (by have := B4.out.size; simp; omega)))
  have hlt : w4.heap.size < w5.heap.size := Q5.out.lt
  obtain ⟨c0, c1, c2⟩ := cells3 Q5.out
  clear h5
  go_wp2_with fail
  go_ret
  exact ⟨rfl, B5.out.alloc B5.out.size _⟩
end Go.Proofs.YtakfplkdjapooaaDoor.Sp
