/- Package sha: arrays of words by value, the first state, and the text of a state. -/
import Derived.Test.YtncimfiiknbcfaaDoorShaAppend
import Derived.Laws.IdiomStrings
import Derived.Laws.BytesArg
namespace Go.Proofs.YtncimfiiknbcfaaDoor.Sp
open Go Go.RowKit

def wordV (x : W) : Value := .int .u32 (U x)
/-- An array of words, by value. -/
def arr (l : List W) : Array Value := (l.map wordV).toArray
theorem arr_size (l : List W) : (arr l).size = l.length := by simp [arr]
theorem arr_one (l : List W) : (arr l).all (·.oneCell') = true := by
  rw [Array.all_eq_true_iff_forall_mem]; intro x hx; simp [arr] at hx; obtain ⟨y, _, rfl⟩ := hx; rfl
theorem arr_get (l : List W) (i : Nat) (h : i < l.length) : (arr l)[i]? = some (.int .u32 (U (gW l i))) := by
  simp [arr, h, wordV, gW]

theorem cells8 : (Tryd.prog.info? 68).map (·.size) = some 8 := by kernel_rfl
theorem infoWord : (Tryd.prog.info? 67).map (fun i => (i.zero, i.size, i.bytes)) = some (some (.int .u32 0), 1, 4) := by kernel_rfl

/-- The element of an array of one-cell words. -/
theorem run_index8 (l : List W) (hl : l.length = 8) (i : Nat) (hi : i < 8) (w : World) :
    (Instr.index 68 (.agg (arr l)) (.int .i64 (i : Int))).run Tryd.prog w = .ok (.int .u32 (U (gW l i))) w := by
  obtain ⟨i0, hi0, hz0, hz1, hz2⟩ := info_parts infoWord
  have h1 : (0 : Int) ≤ (i : Int) ∧ (i : Int) < (8 : Nat) := by omega
  have hg := arr_get l i (by omega)
  simp [Instr.index, run_underlying Tryd.underlying68, asIntOf, h1, hi, sizeOf, typeInfo, hi0, hz1, part, isAgg, run_underlying Tryd.underlying67, hg]

theorem st0_arr : Value.agg #[Value.int IntKind.u32 1779033703, Value.int IntKind.u32 3144134277, Value.int IntKind.u32 1013904242, Value.int IntKind.u32 2773480762, Value.int IntKind.u32 1359893119, Value.int IntKind.u32 2600822924, Value.int IntKind.u32 528734635, Value.int IntKind.u32 1541459225] = .agg (arr st0.ws) := by
  kernel_rfl

theorem initial_any (w : World) :
    Calls Tryd.prog 50 #[] w fun e w' => e = .returned (.agg (arr st0.ws)) ∧ Below w.heap.size w w' := by
  go_enter Tryd.func50, Tryd.ntmps50
  go_wp2
  exact bodyPost_ret (results_cell_row rfl _ _ w.heap.size _ _ (0, 0) _ rfl (heap_alloc_new _ _) Tryd.underlying68 rfl cells8) rfl ⟨by rw [st0_arr], (Below.refl _ _).alloc (Nat.le_refl _) _⟩

theorem run_make32 (w : World) : (Instr.makeSlice 51 (.int .i64 0) (.int .i64 32)).run Tryd.prog w = .ok (.slice (some ⟨w.heap.size, 0, none⟩) 0 32) (w.alloc (.cells (madeCells #[.int .u8 0] 32) 5)) := by
  obtain ⟨i0, hi, hz0, hz1, hz2⟩ := info_parts infoByte
  have h := run_make (P := Tryd.prog) w 51 5 i0 (.int .u8 0) Tryd.underlying51 hi hz0 .i64 .i64 0 32 (by omega) (by omega) (by rw [hz2]; omega) (by omega)
  simpa [hz1, Value.cells] using h
def encPart (s : St) (k : Nat) : List UInt8 := (s.ws.take k).flatMap bytes4
theorem bytes4_length (x : W) : (bytes4 x).length = 4 := rfl
theorem encPart_length (s : St) (k : Nat) (hk : k ≤ 8) : (encPart s k).length ≤ 32 := by
  have h : ∀ l : List W, (l.flatMap bytes4).length = 4 * l.length := fun l => by
    induction l with
    | nil => rfl
    | cons x l ih => simp [List.flatMap_cons, ih, bytes4_length]; omega
  unfold encPart; rw [h]; have := List.length_take_le k s.ws; omega
theorem encPart_succ (s : St) (k : Nat) (hk : k < 8) : encPart s (k + 1) = encPart s k ++ bytes4 (gW s.ws k) := by
  unfold encPart gW
  have hl : k < s.ws.length := hk
  rw [List.take_succ_eq_append_getElem hl, List.flatMap_append, List.getD_eq_getElem?_getD, List.getElem?_eq_getElem hl]
  simp
theorem encPart_all (s : St) : encPart s 8 = encode s := rfl

set_option maxHeartbeats 400000 in
theorem encode_any (s : St) (w : World) :
    Calls Tryd.prog 51 #[.agg (arr s.ws)] w fun e w' => e = .returned (.string ⟨(encode s).toArray⟩) ∧ Below w.heap.size w w' := by
  have hmk := run_make32
  have hix := fun i hi => run_index8 s.ws rfl i hi
  go_enter Tryd.func51, Tryd.ntmps51
  go_wp2_with (refine wpList_load_row rfl 68 (.tmp 1) rfl _ rfl 68 (arr s.ws) (0, 0) _ (heap_alloc2_old _ _ _) Tryd.underlying68 rfl cells8 ?_)
  go_loopw [3, 8] (fun v i wr => ∃ k : Nat, k ≤ 8 ∧ i = .int .i64 k ∧ Own wr w.heap.size v (encPart s k) ∧ Below w.heap.size w wr) (fun _ i _ => 8 - (intOf i).toNat)
  case atStart => exact ⟨0, by omega, rfl, own_made (w.alloc (.cells (arr s.ws) 68)) w.heap.size 32 (w.heap.size + 1) (by simp) (by omega) (by unfold maxLen; omega), ((Below.refl _ _).alloc (Nat.le_refl _) _).alloc (by simp) _⟩
  case round =>
    obtain ⟨k, hk, rfl, hown, hbel⟩ := hrel
    by_cases hlt : k < 8
    · have hi1 := hix k hlt
      have hlen := encPart_length s k hk
      have hsz := hbel.size
      have HO := Lib.hid hown
      clear hown
      go_wp2_with fail
      refine (appendWord_any (gW s.ws k) _ (encPart s k) w.heap.size _ HO.out (by omega) hsz).mono ?_
      rintro e w1 ⟨v1, rfl, hown1, hg1⟩
      have HO1 := Lib.hid hown1
      have HB1 := Lib.hid (hbel.grown hg1 hsz (fun k' hk' => (HO.out.lt k' hk').1))
      clear hown1 hg1
      go_wp2_with fail
      go_roundw
      case rel => exact ⟨k + 1, by omega, by go_num, by rw [encPart_succ s k hlt]; exact HO1.out, HB1.out⟩
      case measure => simp [intOf]; omega
    · obtain rfl : k = 8 := by omega
      have hconv := run_text_of_own hown
      go_wp2
      go_ret
      exact ⟨rfl, hbel⟩

end Go.Proofs.YtncimfiiknbcfaaDoor.Sp
