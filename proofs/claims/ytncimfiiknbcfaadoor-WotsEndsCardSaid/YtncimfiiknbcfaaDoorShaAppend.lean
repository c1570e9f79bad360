/- Package sha: the contract of appendWord: four bytes more behind a row of the call's own. -/
import Derived.Test.YtncimfiiknbcfaaDoorShaSmall
namespace Go.Proofs.YtncimfiiknbcfaaDoor.Sp
open Go Go.RowKit

theorem wrap8_U (y : W) : IntKind.u8.wrap (U y) = ((lowB y).toNat : Int) := by
  rw [IntKind.wrap_u8']; unfold U lowB; rw [UInt8.toNat_ofNat']; omega

attribute [local go_sem] wrap8_U shr24_U shr16_U shr8_U

def Grew (w : World) (base : Nat) (v : Value) (l : List UInt8) (e : Ending) (w' : World) : Prop := ∃ v', e = .returned v' ∧ Own w' base v' l ∧ w.grownBy w' v.ownBlock

set_option maxHeartbeats 400000 in
theorem appendWord_any (x : W) (v : Value) (l : List UInt8) (base : Nat) (w : World) (hown : Own w base v l) (hl : l.length ≤ 140737488355000) (hb : base ≤ w.heap.size) :
    Calls Tryd.prog 53 #[v, .int .u32 (U x)] w (Grew w base v (l ++ bytes4 x)) := by
  obtain ⟨i0, hi, hz0, hz1, hz2⟩ := info_parts infoByte
  unfold Own at hown
  go_enter Tryd.func53, Tryd.ntmps53
  go_wp2_with (first
    | (at_builtin; refine wpList_append_own _ rfl (.tmp 5) (.tmp 17) 51 rfl base 5 i0 (.int .u8 0) 1 1 Tryd.underlying51 hi hz0 hz1 hz2 rfl (by decide) _ _ _ rfl (hown.alloc _) ⟨w.heap.size, 0, none⟩ 4 4 [byteV (lowB (x >>> 24)), byteV (lowB (x >>> 16)), byteV (lowB (x >>> 8)), byteV (lowB x)] rfl rfl ?c1 ?c2 ?c3 ?c4 ?c5 ?_))
  case c1 => intro j u hj; exact new_cell _ _ _ hj
  case c2 => intro u hu; simp at hu; rcases hu with rfl | rfl | rfl | rfl <;> rfl
  case c3 => unfold maxLen; omega
  case c4 => omega
  case c5 => simp; omega
  intro v' w1 hown1 hgrow _
  have HO := Lib.hid hown1
  have HG := Lib.hid hgrow
  clear hown1 hgrow hown
  go_wp2
  go_ret
  refine ⟨v', rfl, ?_, grown_of_alloc HG.out⟩
  unfold Own
  rw [byteVs_append, List.length_append]
  exact HO.out

end Go.Proofs.YtncimfiiknbcfaaDoor.Sp
