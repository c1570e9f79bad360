/- The document's own Node, and the input of one. -/
import Derived.Test.YtdkjlijmejleoaaDoorShaTabs
import Derived.Test.YtdkjlijmejleoaaDoorTreAbove
namespace Go.Proofs.YtdkjlijmejleoaaDoor.Sp
open Go Go.RowKit
set_option maxRecDepth 100000

theorem len2_two (a b : ByteArray) : len2 [a, b] 2 = 9 + a.size + b.size := by simp [len2]; omega

set_option maxHeartbeats 1000000 in
theorem qnode_any (a b : ByteArray) (w : World) (h : a.size + b.size ≤ 281474976710647) (hT : Tabs w) :
    Calls Tryd.prog 41 #[.string a, .string b] w fun e w' => e = .returned (.string (nodeB a b)) ∧ Below w.heap.size w w' := by
  obtain ⟨R, hR⟩ : ∃ R : ByteArray, R = ⟨(sum (inB (UInt8.ofNat 5) [a, b])).toArray⟩ := ⟨_, rfl⟩
  have HL := Lib.hid (show len2 [a, b] 2 ≤ 281474976710656 from by rw [len2_two]; omega)
  have HR := Lib.hid hR
  have HT := Lib.hid hT
  rw [show nodeB a b = R from by rw [hR]; rfl]
  clear hR hT h
  go_enter Tryd.func41, Tryd.ntmps41
  go_wp2_with fail
  refine (qtag_any 5 (by omega) w.heap.size 2 2 [a, b] _ (strs_blk (Blk.new w 9 _) rfl) (by omega) HL.out (HT.out.alloc _) R HR.out).mono ?_
  rintro e w3 ⟨rfl, h3⟩
  have B3 := Lib.hid (((Below.refl w.heap.size w).alloc (Nat.le_refl _) (.cells #[.string a, .string b] 9)).trans (h3.mono (by simp)))
  clear h3
  go_wp2_with fail
  go_ret
  exact ⟨rfl, B3.out⟩
theorem qinp_any (a b : ByteArray) (g c : Nat) (w : World) (h : Strs w (some ⟨g, 0, none⟩) 2 [a, b]) (hs : a.size + b.size ≤ 281474976710647) :
    Calls Tryd.prog 39 #[.int .u8 5, .slice (some ⟨g, 0, none⟩) 2 c] w fun e w' => e = .returned (.string (inpB a b)) ∧ Below w.heap.size w w' :=
  rinput_any (UInt8.ofNat 5) (some ⟨g, 0, none⟩) 2 c [a, b] w h (by omega) (by rw [len2_two]; omega) (inpB a b) rfl
end Go.Proofs.YtdkjlijmejleoaaDoor.Sp
