/- The document's own answer for package sha: the text of words. -/
import Derived.Test.YtnbaoihamjdjdaaGreatDoorShaRef
namespace Go.Proofs.YtnbaoihamjdjdaaGreatDoor.Sp
open Go Go.RowKit

attribute [local go_sem] wrap8_U shr24_U shr16_U shr8_U

def textB (ws : List W) : ByteArray := ⟨(ws.flatMap bytes4).toArray⟩
theorem flat4_length (l : List W) : (l.flatMap bytes4).length = 4 * l.length := by
  induction l with
  | nil => rfl
  | cons x l ih => simp [List.flatMap_cons, ih, bytes4_length]; omega
theorem flat4_succ (ws : List W) (k : Nat) (hk : k < ws.length) : (ws.take (k + 1)).flatMap bytes4 = (ws.take k).flatMap bytes4 ++ bytes4 (gW ws k) := by
  rw [List.take_succ_eq_append_getElem hk, List.flatMap_append]
  unfold gW
  rw [List.getD_eq_getElem?_getD, List.getElem?_eq_getElem hk]
  simp

/-- n words from an address on. -/
def WCells (w : World) (b off n : Nat) (ws : List W) : Prop := ws.length = n ∧ ∀ j, j < n → w.cell? ⟨b, off + j, none⟩ = some (wordV (gW ws j))

set_option maxHeartbeats 2000000 in
theorem text_any (b off n c : Nat) (ws : List W) (w : World) (h : WCells w b off n ws) (hn : n ≤ 1000000) :
    Calls Tryz.prog 100 #[.slice (some ⟨b, off, none⟩) n c] w fun e w' => e = .returned (.string (textB ws)) ∧ Below w.heap.size w w' := by
  obtain ⟨i0, hi0, hz0, hz1, hz2⟩ := info_parts infoByte
  have HH := Lib.hid h
  clear h
  go_enter Tryz.func100, Tryz.ntmps100
  go_wp2_with fail
  go_loopw [3, 4] (fun v i wr => ∃ k : Nat, k ≤ n ∧ Own wr w.heap.size v ((ws.take k).flatMap bytes4) ∧ i = .int .i64 (k : Int) ∧ Below w.heap.size w wr) (fun _ i _ => n - (intOf i).toNat)
  case atStart => exact ⟨0, Nat.zero_le _, World.ownsRow_nil _ _ _ _, rfl, Below.refl _ _⟩
  case round =>
    obtain ⟨k, hk, hown, rfl, hbel⟩ := hrel
    have HO := Lib.hid hown
    have HB := Lib.hid hbel
    have hsz := hbel.size
    clear hown hbel
    by_cases hlt : k < n
    · obtain ⟨x, ex⟩ : ∃ x : W, x = gW ws k := ⟨_, rfl⟩
      have hcell0 := HH.out.2 k hlt
      have hbw : b < w.heap.size := block_lt_of_cell hcell0
      have hcell : wr.cell? ⟨b, off + k, none⟩ = some (.int .u32 (U x)) := by
        rw [ex]; exact (HB.out.cell (p := ⟨b, off + k, none⟩) hbw).trans hcell0
      have hki : (k : Int) < (n : Int) := by omega
      have hk0 : (0 : Int) ≤ (k : Int) := by omega
      have EXx := Lib.hid ex
      clear ex hcell0
      have hlk : ((ws.take k).flatMap bytes4).length = 4 * k := by rw [flat4_length, List.length_take, HH.out.1]; omega
      obtain ⟨q, hq⟩ : ∃ q : Nat, q = 4 * k := ⟨_, rfl⟩
      obtain ⟨Xs, eX⟩ : ∃ Xs : List Value, Xs = byteVs ((ws.take k).flatMap bytes4) := ⟨_, rfl⟩
      have HOk := Lib.hid (show wr.ownsRow w.heap.size 5 1 u3 q Xs from by have := HO.out; unfold Own at this; rw [hlk] at this; rw [eX, hq]; exact this)
      have EX := Lib.hid eX
      have HQ := Lib.hid hq
      have hA : q + 4 ≤ maxLen := by unfold maxLen; omega
      have hB : (q + 4) * 1 ≤ 140737488355328 := by omega
      have ak := Lib.hid (show Value.ownBlock u3 ≠ some b from fun e => by have := (HO.out.lt b e).1; omega)
      have HLK := Lib.hid hlk
      have hbase : w.heap.size ≤ wr.heap.size + 1 := by omega
      have hbr : b < wr.heap.size + 1 := by omega
      clear eX hq hlk
      have hOut := Lib.hid (show ∀ (w1 : World) (v : Value), w1.ownsRow w.heap.size 5 1 v (q + 4) (Xs ++ byteVs (bytes4 x)) → Own w1 w.heap.size v ((ws.take (k + 1)).flatMap bytes4) from by
        intro w1 v h1
        unfold Own
        rw [flat4_succ ws k (by rw [HH.out.1]; exact hlt), List.length_append, byteVs_append, ← EX.out, HLK.out, ← HQ.out, bytes4_length, ← EXx.out]
        exact h1)
      have hBel := Lib.hid (show ∀ (w1 : World) (o : Obj), (wr.alloc o).drew.grownBy w1 u3.ownBlock → Below w.heap.size w w1 from by
        intro w1 o hg
        exact ((HB.out.alloc hsz _).drew).grown hg (by simp; omega) (fun k' hk' => (HO.out.lt k' hk').1))
      go_wp2_with fail
      go_region_held3 (fun w' => w'.cell? ⟨b, off + k, none⟩ = some (.int .u32 (U x))) (first
        | go_keep
        | (rw [hgrow.cell_far _ (by simp; omega) (Ne.symm ak.out)]; assumption))
        ((refine step_append_lies _ (by rfl) _ _ _ (by rfl) w.heap.size 5 i0 _ 1 1 Tryz.underlying68 hi0 hz0 hz1 hz2 rfl Nat.one_pos u3 q Xs (by rfl) ((World.ownsRow.alloc HOk.out _).drew) ⟨wr.heap.size, 0, none⟩ 4 4 _ (by rfl) (by rfl) (World.news_of_block (heap_alloc_new wr _)) (by simp [Value.oneCell']) (by decide) hA hB (by simpa using hbase) (wr.heap.size + 1) (by simp) ?_; intro gg cap w1 hown1 hgrow hat hgl; have HN := Lib.hid (hOut.out _ _ hown1); have HBn := Lib.hid (hBel.out _ _ hgrow)))
      all_goals
        clear hown1 hgrow hat hgl
        go_wp2_with fail
        go_roundw
        case rel => exact ⟨k + 1, by omega, HN.out, by go_num, HBn.out⟩
        case measure => simp [intOf]; omega
    · have hki : ¬ (k : Int) < (n : Int) := by omega
      have hkn : k = n := by omega
      have hall := Lib.hid (show Own wr w.heap.size u3 (ws.flatMap bytes4) from by
        have := HO.out
        rw [hkn, ← HH.out.1, List.take_length] at this
        exact this)
      clear hkn
      have hconv := run_text_of_own hall.out
      go_wp2_with fail
      go_ret
      exact ⟨rfl, HB.out⟩

end Go.Proofs.YtnbaoihamjdjdaaGreatDoor.Sp
