/- The document's own answer for package codec: texts of a Writer. -/
import Derived.Test.YtnbaoihamjdjdaaGreatDoorCodQn
namespace Go.Proofs.YtnbaoihamjdjdaaGreatDoor.Sp
open Go Go.RowKit
set_option maxRecDepth 100000

set_option maxHeartbeats 1000000 in
theorem qwtext_any (g : Nat) (s S R : ByteArray) (w : World) (hW : QW w g S) (hS : S.size + 4 + s.size ≤ 9223372036854775000) (hR : R = S ++ ⟨(be 4 s.size).toArray⟩ ++ s) :
    Calls Tryz.prog 28 #[.pointer (some ⟨g, 0, none⟩), .string s] w fun e w' => e = .returned (.tuple #[]) ∧ QW w' g R ∧ Only g w w' := by
  have HW := Lib.hid hW
  have h0 : w.cell? ⟨g, 0, none⟩ = some (.string S) := hW.cell 0
  have f0 := hW.frozen 0
  have hgl := hW.lt
  obtain ⟨B, eB⟩ : ∃ B : ByteArray, B = ⟨(be 4 s.size).toArray⟩ := ⟨_, rfl⟩
  have hBs : B.size = 4 := by rw [eB]; show (be 4 s.size).toArray.size = 4; simp [be_length]
  have hadd : ¬ 9223372036854775807 < S.size + B.size := by omega
  have hadd2 : ¬ 9223372036854775807 < S.size + B.size + s.size := by omega
  have hsl : (s.size : Int) ≤ 9223372036854775807 := by omega
  have EB := Lib.hid eB
  rw [← eB] at hR
  have HR := Lib.hid hR
  have hq : ∀ W, Calls Tryz.prog 62 #[.int .u64 (s.size : Int), .int .i64 4] W fun e w' => e = .returned (.string B) ∧ Below W.heap.size W w' := by
    intro W; rw [eB]; exact qnumber_any s.size 4 (by omega) (by omega) (by omega) W
  have HQ := Lib.hid hq
  clear hW hR eB hBs hq
  have hwr : IntKind.u64.wrap (s.size : Int) = (s.size : Int) := by rw [IntKind.wrap_u64]; omega
  go_enter Tryz.func28, Tryz.ntmps28
  go_wp2_with fail
  go_region_law ((go_simp; go_at_call 62; (with_reducible refine (HQ.out _).mono ?_); rintro e w1 ⟨rfl, hb1⟩; have hc1 : w1.cell? ⟨g, 0, none⟩ = some (.string S) := (hb1.cell (p := ⟨g, 0, none⟩) hgl).trans h0; have hf1 : w1.frozen? ⟨g, 0, none⟩ = false := (hb1.frozen (p := ⟨g, 0, none⟩) hgl).trans f0; have HB1 := Lib.hid hb1; clear hb1))
  all_goals
    have HB2 := Lib.hid (((Below.refl w.heap.size w).drew).trans HB1.out)
    rw [← HR.out]
    clear hc1 hf1 h0 f0 hadd hadd2 hwr
    go_wp2_with fail
    go_end0
    exact ⟨rfl, (Blk.below HW.out HB2.out hgl).set_ 0 _, (Only.of_below g HB2.out).set_ 0 _⟩

end Go.Proofs.YtnbaoihamjdjdaaGreatDoor.Sp
