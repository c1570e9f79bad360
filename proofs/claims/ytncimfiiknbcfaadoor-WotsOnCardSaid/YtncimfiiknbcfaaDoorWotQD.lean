/- The document's own digits of a message. -/
import Derived.Test.YtncimfiiknbcfaaDoorWotQ
import Derived.Test.YtncimfiiknbcfaaDoorWotNum
import Derived.Test.YtncimfiiknbcfaaDoorReads
import Derived.Deep.AppendLies
namespace Go.Proofs.YtncimfiiknbcfaaDoor.Sp
open Go Go.RowKit
set_option maxRecDepth 100000

set_option maxHeartbeats 2000000 in
theorem qdigits_any (msg : ByteArray) (hm : msg.size ≤ 140737488351232) (w : World) (hT : Tabs w) :
    Calls Tryd.prog 13 #[.string msg] w (DigTo msg w) := by
  obtain ⟨R, hR⟩ : ∃ R : ByteArray, R = ⟨(sum (inB 1 [msg])).toArray⟩ := ⟨_, rfl⟩
  have hRs : R.size = 32 := by rw [← size_list, hR]; exact sum_length _
  have HRl := Lib.hid (show R.data.toList = sum (inB 1 [msg]) from by rw [hR])
  have HL := Lib.hid (show len2 [msg] 1 ≤ 140737488351300 by simp [len2]; omega)
  have HR := Lib.hid hR
  have HT := Lib.hid hT
  clear hR hT hm
  go_enter Tryd.func13, Tryd.ntmps13
  go_wp2_with fail
  refine (qtag_any 1 (by omega) w.heap.size 1 1 [msg] _ (strs_blk (Blk.new w 9 _) rfl) (by omega) HL.out (HT.out.alloc _) R HR.out).mono ?_
  rintro e w1 ⟨rfl, h1⟩
  have B1 := Lib.hid (((Below.refl _ _).alloc (Nat.le_refl _) (.cells #[.string msg] 9)).trans (h1.mono (by simp)))
  clear h1 HT HL HR
  go_wp2_with fail
  go_loopw [4, 5, 6] (fun x y z wr => ∃ k : Nat, k ≤ 4 ∧ z = .int .i64 (k : Int) ∧ y = .int .i64 ((lacks (hexOf (R.data.toList.take k)) : Nat) : Int) ∧ OwnN wr w.heap.size x (hexOf (R.data.toList.take k)) ∧ Below w.heap.size w wr) (fun _ _ z _ => 4 - (intOf z).toNat)
  case atStart => exact ⟨0, by omega, rfl, rfl, World.ownsRow_nil _ _ _ _, B1.out⟩
  case round =>
    obtain ⟨k, hk, rfl, rfl, hown, hbel⟩ := hrel
    have HO := Lib.hid hown
    have HB := Lib.hid hbel
    have hbz := hbel.size
    clear hown hbel
    obtain ⟨L, hL⟩ : ∃ L, lacks (hexOf (R.data.toList.take k)) = L := ⟨_, rfl⟩
    rw [hL]
    have hLm : L ≤ 120 := by
      have h1 := lacks_le (hexOf (R.data.toList.take k))
      rw [hexOf_length, List.length_take, hL] at h1
      omega
    by_cases hlt : k < 4
    · have hki : (k : Int) < 4 := by omega
      have hk0 : (0 : Int) ≤ (k : Int) := by omega
      have hkR : (k : Int) < (R.size : Int) := by omega
      have hkn : k < R.size := by omega
      obtain ⟨b, hb⟩ : ∃ b, R[k].toNat = b := ⟨_, rfl⟩
      have hb256 : b < 256 := by rw [← hb]; exact R[k].toNat_lt
      obtain ⟨p, hp⟩ : ∃ p, b / 16 = p := ⟨_, rfl⟩
      obtain ⟨q, hq⟩ : ∃ q, b % 16 = q := ⟨_, rfl⟩
      have hp15 : p ≤ 15 := by omega
      have hq15 : q ≤ 15 := by omega
      have hnext := Lib.hid (show hexOf (R.data.toList.take (k + 1)) = hexOf (R.data.toList.take k) ++ [p, q] from by
        rw [show R.data.toList.take (k + 1) = R.data.toList.take k ++ [R[k]] from by rw [List.take_succ_eq_append_getElem (by rw [size_list]; omega)]; rfl, hexOf_snoc, hb, hp, hq])
      have hd : ((R[k].toNat : Int)) / 16 = (p : Int) := by rw [hb]; omega
      have hm : ((R[k].toNat : Int)) % 16 = (q : Int) := by rw [hb]; omega
      have hL2 := Lib.hid (show lacks (hexOf (R.data.toList.take (k + 1))) = L + (15 - p) + (15 - q) from by rw [hnext.out, lacks_app, hL]; simp [lacks]; omega)
      have hln := Lib.hid (show (hexOf (R.data.toList.take k)).length = 2 * k from by rw [hexOf_length, List.length_take, size_list]; omega)
      obtain ⟨Xs, eXs⟩ : ∃ Xs : List Value, (hexOf (R.data.toList.take k)).map intV = Xs := ⟨_, rfl⟩
      have HOk := Lib.hid (show wr.ownsRow w.heap.size 3 1 u4 (2 * k) Xs from by have := HO.out; unfold OwnN at this; rw [hln.out, eXs] at this; exact this)
      have EXs := Lib.hid eXs
      clear hL hlt hb hp hq eXs hb256
      obtain ⟨i0, hi0, hz0, hz1, hz2⟩ := info_parts infoInt
      have hk8 : 2 * k + 2 ≤ maxLen := by unfold maxLen; omega
      have hkb : (2 * k + 2) * 8 ≤ 140737488355328 := by omega
      go_wp2_with (at_builtin; refine wpList_append_own _ rfl (.tmp 26) (.tmp 29) 24 rfl w.heap.size 3 i0 (.int .i64 0) 1 8 Tryd.underlying24 hi0 hz0 hz1 hz2 rfl (by decide) u4 (2 * k) Xs rfl (HOk.out.alloc _) ⟨wr.heap.size, 0, none⟩ 2 2 [.int .i64 (p : Int), .int .i64 (q : Int)] rfl rfl ?c1 ?c2 ?c3 ?c4 ?c5 ?_)
      case c1 => intro j u hj; exact new_cell _ _ _ hj
      case c2 => intro u hu; simp at hu; rcases hu with rfl | rfl <;> rfl
      case c3 => exact hk8
      case c4 => exact hkb
      case c5 => simp; omega
      intro v' w2 hown2 hgrow _
      have HO2 := Lib.hid (show OwnN w2 w.heap.size v' (hexOf (R.data.toList.take (k + 1))) from by
        unfold OwnN
        rw [hnext.out, List.map_append, List.length_append, hln.out, EXs.out]
        exact hown2)
      have HB2 := Lib.hid (show Below w.heap.size w w2 from by
        refine (HB.out.alloc hbz _).grown hgrow (by simp; omega) ?_
        intro k' hk'
        exact (HOk.out.lt k' hk').1)
      clear hown2 hgrow hk8 hkb hd hm
      go_wp2_with fail
      go_roundw
      case rel => exact ⟨k + 1, by omega, by go_num, by rw [hL2.out]; congr 1; omega, HO2.out, HB2.out⟩
      case measure => simp [intOf]; omega
    · have hki : ¬ (k : Int) < 4 := by omega
      obtain rfl : k = 4 := by omega
      obtain ⟨p, hp⟩ : ∃ p, L / 16 = p := ⟨_, rfl⟩
      obtain ⟨q, hq⟩ : ∃ q, L % 16 = q := ⟨_, rfl⟩
      have hd : (L : Int) / 16 = (p : Int) := by omega
      have hm : (L : Int) % 16 = (q : Int) := by omega
      have hp15 : p ≤ 15 := by omega
      have hq15 : q ≤ 15 := by omega
      have hdig := Lib.hid (show digitsN msg = hexOf (R.data.toList.take 4) ++ [p, q] from by
        rw [← hp, ← hq, ← hL, HRl.out]; rfl)
      have hln := Lib.hid (show (hexOf (R.data.toList.take 4)).length = 8 from by rw [hexOf_length, List.length_take, size_list]; omega)
      obtain ⟨Xs, eXs⟩ : ∃ Xs : List Value, (hexOf (R.data.toList.take 4)).map intV = Xs := ⟨_, rfl⟩
      have HOk := Lib.hid (show wr.ownsRow w.heap.size 3 1 u4 8 Xs from by have := HO.out; unfold OwnN at this; rw [hln.out, eXs] at this; exact this)
      have EXs := Lib.hid eXs
      obtain ⟨i0, hi0, hz0, hz1, hz2⟩ := info_parts infoInt
      clear hL hp hq eXs
      go_wp2_with (at_builtin; refine wpList_append_own _ rfl (.tmp 38) (.tmp 43) 24 rfl w.heap.size 3 i0 (.int .i64 0) 1 8 Tryd.underlying24 hi0 hz0 hz1 hz2 rfl (by decide) u4 8 Xs rfl (HOk.out.alloc _) ⟨wr.heap.size, 0, none⟩ 2 2 [.int .i64 (p : Int), .int .i64 (q : Int)] rfl rfl ?c1 ?c2 ?c3 ?c4 ?c5 ?_)
      all_goals first
        | (intro j u hj; exact new_cell _ _ _ hj; done)
        | (intro u hu; simp at hu; rcases hu with rfl | rfl <;> rfl; done)
        | exact ⟨rfl, rfl⟩
        | (unfold maxLen; omega)
        | omega
        | (simp; omega; done)
        | skip
      intro v' w2 hown2 hgrow _
      have HO2 := Lib.hid (show OwnN w2 w.heap.size v' (digitsN msg) from by
        unfold OwnN
        rw [hdig.out, List.map_append, List.length_append, hln.out, EXs.out]
        exact hown2)
      have HB2 := Lib.hid (show Below w.heap.size w w2 from by
        refine (HB.out.alloc hbz _).grown hgrow (by simp; omega) ?_
        intro k' hk'
        exact (HOk.out.lt k' hk').1)
      have hten := Lib.hid (show (digitsN msg).length = 10 from by rw [hdig.out, List.length_append, hln.out]; rfl)
      clear hown2 hgrow
      obtain ⟨a, c, hv, hc⟩ := HO2.out.cells_
      rw [hten.out] at hv hc
      subst hv
      have HC := Lib.hid hc
      clear hc HO2
      go_wp2_with fail
      go_ret
      exact ⟨a, c, rfl, HC.out, HB2.out⟩
end Go.Proofs.YtncimfiiknbcfaaDoor.Sp
