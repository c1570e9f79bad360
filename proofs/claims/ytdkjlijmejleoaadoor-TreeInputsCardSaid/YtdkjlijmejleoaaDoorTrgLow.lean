/- Package tree: elements in memory, rows of them that are made and then filled in place; the level of the leaves. -/
import Derived.Test.YtdkjlijmejleoaaDoorTrgOver
import Derived.Test.YtdkjlijmejleoaaDoorTreB
namespace Go.Proofs.YtdkjlijmejleoaaDoor.Sp
open Go Go.RowKit
set_option maxRecDepth 100000

/-- So many elements, of which the first k are there. -/
def fillN (U V : List ByteArray) (n k : Nat) : Array Value := ((List.range (n * 2)).map fun c => Value.string (if c / 2 < k then (if c % 2 = 0 then U.getD (c / 2) .empty else V.getD (c / 2) .empty) else .empty)).toArray
theorem fillN_made (U V : List ByteArray) (n : Nat) : madeCells #[Value.string .empty, Value.string .empty] (n * 2) = fillN U V n 0 := by
  unfold madeCells fillN
  apply Array.toList_inj.1
  rw [Array.toList_map, Array.toList_range]
  apply List.map_congr_left
  intro c _
  rcases Nat.mod_two_eq_zero_or_one c with h | h <;> simp [h]
theorem fillN_get (U V : List ByteArray) (n k : Nat) (hk : k < n) : (fillN U V n k)[k * 2]? = some (.string .empty) ∧ (fillN U V n k)[k * 2 + 1]? = some (.string .empty) := by
  constructor
  · simp [fillN, show k * 2 < n * 2 by omega]
  · simp [fillN, show k * 2 + 1 < n * 2 by omega, show (k * 2 + 1) / 2 = k by omega]
theorem fillN_set (U V : List ByteArray) (n k : Nat) (_hk : k < n) : ((fillN U V n k).setIfInBounds (k * 2) (.string (U.getD k .empty))).setIfInBounds (k * 2 + 1) (.string (V.getD k .empty)) = fillN U V n (k + 1) := by
  apply Array.toList_inj.1
  rw [Array.toList_setIfInBounds, Array.toList_setIfInBounds]
  apply List.ext_getElem
  · simp [fillN]
  · intro j h1 h2
    simp only [fillN, List.getElem_set, List.getElem_map, List.getElem_range]
    by_cases hj1 : k * 2 + 1 = j
    · subst hj1
      rw [if_pos rfl, if_pos (by omega), if_neg (by omega), show (k * 2 + 1) / 2 = k by omega]
    · rw [if_neg hj1]
      by_cases hj0 : k * 2 = j
      · subst hj0
        rw [if_pos rfl, if_pos (by omega), if_pos (by omega), show (k * 2) / 2 = k by omega]
      · rw [if_neg hj0]
        rcases Nat.lt_or_ge (j / 2) k with h | h
        · rw [if_pos h, if_pos (show j / 2 < k + 1 by omega)]
        · rw [if_neg (by omega), if_neg (by omega)]
/-- Elements in memory: their values, their texts (none where the list has no more). -/
def Nds (w : World) (a : Option Addr) (n : Nat) (U V : List ByteArray) : Prop :=
  U.length = n ∧ (0 < n → ∃ b, a = some ⟨b, 0, none⟩ ∧ ∀ j, j < n → w.cell? ⟨b, j * 2, none⟩ = some (.string (U.getD j .empty)) ∧ w.cell? ⟨b, j * 2 + 1, none⟩ = some (.string (V.getD j .empty)))
theorem fillN_nds {U V : List ByteArray} {n g : Nat} {w : World} (h : Blk w g 48 (fillN U V n n)) (hU : U.length = n) : Nds w (some ⟨g, 0, none⟩) n U V := by
  refine ⟨hU, fun _ => ⟨g, rfl, fun j hj => ?_⟩⟩
  rw [h.cell, h.cell]
  constructor
  · simp [fillN, show j * 2 < n * 2 by omega, hj]
  · simp [fillN, show j * 2 + 1 < n * 2 by omega, show (j * 2 + 1) / 2 = j by omega, hj]
theorem Nds.lt {w : World} {a : Option Addr} {n : Nat} {U V : List ByteArray} (h : Nds w a n U V) (hn : 0 < n) : ∀ p, a = some p → p.block < w.heap.size := by
  obtain ⟨b, e, hc⟩ := h.2 hn
  intro p hp
  rw [e] at hp; injection hp with hp; subst hp
  exact block_lt_of_cell (hc 0 hn).1
theorem Nds.below {w w' : World} {a : Option Addr} {n : Nat} {U V : List ByteArray} (h : Nds w a n U V) (hb : Below w.heap.size w w') : Nds w' a n U V := by
  refine ⟨h.1, fun hn => ?_⟩
  obtain ⟨b, e, hc⟩ := h.2 hn
  have hlt : b < w.heap.size := block_lt_of_cell (hc 0 hn).1
  exact ⟨b, e, fun j hj => ⟨(hb.cell (p := ⟨b, j * 2, none⟩) hlt).trans (hc j hj).1, (hb.cell (p := ⟨b, j * 2 + 1, none⟩) hlt).trans (hc j hj).2⟩⟩
theorem Nds.grown {w w' : World} {a : Option Addr} {n : Nat} {U V : List ByteArray} {row : Option Nat} (h : Nds w a n U V) (hg : w.grownBy w' row) (hne : ∀ p, a = some p → some p.block ≠ row) : Nds w' a n U V := by
  refine ⟨h.1, fun hp => ?_⟩
  obtain ⟨b, e, hc⟩ := h.2 hp
  exact ⟨b, e, fun j hj => ⟨World.grownBy.cell hg (a := ⟨b, j * 2, none⟩) (hc j hj).1 (hne ⟨b, 0, none⟩ e), World.grownBy.cell hg (a := ⟨b, j * 2 + 1, none⟩) (hc j hj).2 (hne ⟨b, 0, none⟩ e)⟩⟩
theorem infoNode : (Tryd.prog.info? 48).map (fun i => (i.zero, i.size, i.bytes)) = some (some (.agg #[.string .empty, .string .empty]), 2, 32) := by kernel_rfl
theorem run_make_nodes (n : Nat) (hn : n ≤ 1000) (u : World) : (Instr.makeSlice 44 (.int .i64 (n : Int)) (.int .i64 (n : Int))).run Tryd.prog u =
    .ok (.slice (some ⟨u.heap.size, 0, none⟩) n n) (u.alloc (.cells (madeCells #[.string .empty, .string .empty] (n * 2)) 48)) := by
  obtain ⟨i0, hi, hz0, hz1, hz2⟩ := info_parts infoNode
  have h := run_make (P := Tryd.prog) u 44 48 i0 (.agg #[.string .empty, .string .empty]) Tryd.underlying44 hi hz0 .i64 .i64 (n : Int) (n : Int) (by omega) (by omega) (by rw [hz2]; omega) (by omega)
  simpa [hz1, Value.cells] using h
/-- What hands back elements in memory of its own. -/
def NdsTo (U V : List ByteArray) (n : Nat) (w : World) (e : Ending) (w' : World) : Prop :=
  ∃ a : Option Addr, e = .returned (.slice a n n) ∧ Nds w' a n U V ∧ Below w.heap.size w w' ∧ (∀ p, a = some p → w.heap.size ≤ p.block)
theorem get_nil (j : Nat) : ([] : List ByteArray).getD j .empty = .empty := by simp

set_option maxHeartbeats 2000000 in
theorem lowest_any (l : List ByteArray) (a : Option Addr) (n cap : Nat) (hn : n ≤ 128) (w : World) (hl : Strs w a n l) :
    Calls Tryd.prog 36 #[.slice a n cap] w (NdsTo l [] n w) := by
  have hlen := hl.1
  have HL := Lib.hid hl
  have hmk := run_make_nodes n (by omega) w
  rw [fillN_made l []] at hmk
  clear hl
  go_enter Tryd.func36, Tryd.ntmps36
  go_wp2_with fail
  go_loopw [11] (fun y wr => ∃ k : Nat, k ≤ n ∧ y = .int .i64 (k : Int) ∧ Blk wr w.heap.size 48 (fillN l [] n k) ∧ Below w.heap.size w wr) (fun y _ => n - (intOf y).toNat)
  case atStart => exact ⟨0, by omega, rfl, Blk.new _ _ _, (Below.refl _ _).alloc (Nat.le_refl _) _⟩
  case round =>
    obtain ⟨k, hk, rfl, hblk, hbel⟩ := hrel
    have HK := Lib.hid hblk
    have HB := Lib.hid hbel
    have hbz := hbel.size
    clear hblk hbel hmk
    by_cases hlt : k < n
    · have hki : (k : Int) < (n : Int) := by omega
      have hk0 : (0 : Int) ≤ (k : Int) := by omega
      obtain ⟨b, off, rfl, hcell⟩ := HL.out.2 (by omega)
      have hbw0 : b < w.heap.size := block_lt_of_cell (hcell k hlt)
      obtain ⟨X, hX⟩ : ∃ X, l.getD k ByteArray.empty = X := ⟨_, rfl⟩
      have c1 : wr.cell? ⟨b, off + k, none⟩ = some (.string X) := by rw [← hX]; exact (HB.out.cell (p := ⟨b, off + k, none⟩) hbw0).trans (hcell k hlt)
      have hset := Lib.hid (show ((fillN l [] n k).setIfInBounds (k * 2) (.string X)).setIfInBounds (k * 2 + 1) (.string .empty) = fillN l [] n (k + 1) from by
        have h9 := fillN_set l [] n k hlt
        rw [get_nil, hX] at h9
        exact h9)
      have d0 := HK.out.cell (k * 2)
      have d1 := HK.out.cell (k * 2 + 1)
      rw [(fillN_get l [] n k hlt).1] at d0
      rw [(fillN_get l [] n k hlt).2] at d1
      have f0 := HK.out.frozen (k * 2)
      have f1 := HK.out.frozen (k * 2 + 1)
      clear hcell hX
      go_wp2_with fail
      go_roundw
      case rel => exact ⟨k + 1, by omega, by go_num, by rw [← hset.out]; exact (HK.out.set_ (k * 2) _).set_ (k * 2 + 1) _, (HB.out.setCell (p := ⟨w.heap.size, k * 2, none⟩) (Nat.le_refl _) _).setCell (p := ⟨w.heap.size, k * 2 + 1, none⟩) (Nat.le_refl _) _⟩
      case measure => simp [intOf]; omega
    · have hki : ¬ (k : Int) < (n : Int) := by omega
      obtain rfl : k = n := by omega
      go_wp2_with fail
      go_ret
      exact ⟨_, rfl, fillN_nds HK.out hlen, HB.out, fun p hp => by injection hp with hp; subst hp; exact Nat.le_refl _⟩
end Go.Proofs.YtdkjlijmejleoaaDoor.Sp
