/- Package sha: arrays of words by value, the first state, and the text of a state. -/
import Derived.Test.YtnkkckmejjcfkaaGreatDoorGzA
import Derived.Laws.IdiomStrings
import Derived.Laws.BytesArg
import Derived.Deep.Draws
import Derived.StillTailTactics
import Derived.Deep.RegionHeld3
namespace Go.Proofs.YtnkkckmejjcfkaaGreatDoor.Sp
open Go Go.RowKit
set_option maxRecDepth 100000

def wordV (x : W) : Value := .int .u32 (U x)
/-- An array of words, by value. -/
def arr (l : List W) : Array Value := (l.map wordV).toArray
theorem arr_size (l : List W) : (arr l).size = l.length := by simp [arr]
theorem arr_one (l : List W) : (arr l).all (·.oneCell') = true := by
  rw [Array.all_eq_true_iff_forall_mem]; intro x hx; simp [arr] at hx; obtain ⟨y, _, rfl⟩ := hx; rfl
theorem arr_get (l : List W) (i : Nat) (h : i < l.length) : (arr l)[i]? = some (.int .u32 (U (gW l i))) := by
  simp [arr, h, wordV, gW]

theorem cells8 : (Tryz.prog.info? 101).map (·.size) = some 8 := by kernel_rfl
theorem infoWord : (Tryz.prog.info? 100).map (fun i => (i.zero, i.size, i.bytes)) = some (some (.int .u32 0), 1, 4) := by kernel_rfl

/-- The element of an array of one-cell words. -/
theorem run_index8 (l : List W) (hl : l.length = 8) (i : Nat) (hi : i < 8) (w : World) :
    (Instr.index 101 (.agg (arr l)) (.int .i64 (i : Int))).run Tryz.prog w = .ok (.int .u32 (U (gW l i))) w := by
  obtain ⟨i0, hi0, hz0, hz1, hz2⟩ := info_parts infoWord
  have h1 : (0 : Int) ≤ (i : Int) ∧ (i : Int) < (8 : Nat) := by omega
  have hg := arr_get l i (by omega)
  simp [Instr.index, run_underlying Tryz.underlying101, asIntOf, h1, hi, sizeOf, typeInfo, hi0, hz1, part, isAgg, run_underlying Tryz.underlying100, hg]

theorem st0_arr : Value.agg #[Value.int IntKind.u32 1779033703, Value.int IntKind.u32 3144134277, Value.int IntKind.u32 1013904242, Value.int IntKind.u32 2773480762, Value.int IntKind.u32 1359893119, Value.int IntKind.u32 2600822924, Value.int IntKind.u32 528734635, Value.int IntKind.u32 1541459225] = .agg (arr st0.ws) := by
  kernel_rfl

theorem initial_any (w : World) :
    Calls Tryz.prog 76 #[] w fun e w' => e = .returned (.agg (arr st0.ws)) ∧ Below w.heap.size w w' := by
  go_enter Tryz.func76, Tryz.ntmps76
  go_wp2
  exact bodyPost_ret (results_cell_row rfl _ _ w.heap.size _ _ (0, 0) _ rfl (heap_alloc_new _ _) Tryz.underlying101 rfl cells8) rfl ⟨by rw [st0_arr], (Below.refl _ _).alloc (Nat.le_refl _) _⟩

theorem run_make32 (w : World) : (Instr.makeSlice 62 (.int .i64 0) (.int .i64 32)).run Tryz.prog w = .ok (.slice (some ⟨w.heap.size, 0, none⟩) 0 32) (w.alloc (.cells (madeCells #[.int .u8 0] 32) 5)) := by
  obtain ⟨i0, hi, hz0, hz1, hz2⟩ := info_parts infoByte
  have h := run_make (P := Tryz.prog) w 62 5 i0 (.int .u8 0) Tryz.underlying62 hi hz0 .i64 .i64 0 32 (by omega) (by omega) (by rw [hz2]; omega) (by omega)
  simpa [hz1, Value.cells] using h
def encPart (s : St) (k : Nat) : List UInt8 := (s.ws.take k).flatMap bytes4
theorem bytes4_length (x : W) : (bytes4 x).length = 4 := rfl
theorem encPart_length (s : St) (k : Nat) (hk : k ≤ 8) : (encPart s k).length ≤ 32 := by
  have h : ∀ l : List W, (l.flatMap bytes4).length = 4 * l.length := fun l => by
    induction l with
    | nil => rfl
    | cons x l ih => simp [List.flatMap_cons, ih, bytes4_length]; omega
  unfold encPart; rw [h]; have := List.length_take_le k s.ws; omega
theorem encPart_succ (s : St) (k : Nat) (hk : k < 8) : encPart s (k + 1) = encPart s k ++ bytes4 (gW s.ws k) := by
  unfold encPart gW
  have hl : k < s.ws.length := hk
  rw [List.take_succ_eq_append_getElem hl, List.flatMap_append, List.getD_eq_getElem?_getD, List.getElem?_eq_getElem hl]
  simp
theorem encPart_all (s : St) : encPart s 8 = encode s := rfl

set_option maxHeartbeats 400000 in
theorem encode_any (s : St) (w : World) :
    Calls Tryz.prog 77 #[.agg (arr s.ws)] w fun e w' => e = .returned (.string ⟨(encode s).toArray⟩) ∧ Below w.heap.size w w' := by
  have hmk := run_make32
  have hix := fun i hi => run_index8 s.ws rfl i hi
  go_enter Tryz.func77, Tryz.ntmps77
  go_wp2_with (refine wpList_load_row rfl 101 (.tmp 1) rfl _ rfl 101 (arr s.ws) (0, 0) _ (heap_alloc2_old _ _ _) Tryz.underlying101 rfl cells8 ?_)
  go_loopw [3, 8] (fun v i wr => ∃ k : Nat, k ≤ 8 ∧ i = .int .i64 k ∧ Own wr w.heap.size v (encPart s k) ∧ Below w.heap.size w wr) (fun _ i _ => 8 - (intOf i).toNat)
  case atStart => exact ⟨0, by omega, rfl, own_made (w.alloc (.cells (arr s.ws) 101)) w.heap.size 32 (w.heap.size + 1) (by simp) (by omega) (by unfold maxLen; omega), ((Below.refl _ _).alloc (Nat.le_refl _) _).alloc (by simp) _⟩
  case round =>
    obtain ⟨k, hk, rfl, hown, hbel⟩ := hrel
    by_cases hlt : k < 8
    · have hi1 := hix k hlt
      have hlen := encPart_length s k hk
      have hsz := hbel.size
      have HO := Lib.hid hown
      clear hown
      go_wp2_with fail
      refine (appendWord_any (gW s.ws k) _ (encPart s k) w.heap.size _ HO.out (by omega) hsz).mono ?_
      rintro e w1 ⟨v1, rfl, hown1, hg1⟩
      have HO1 := Lib.hid hown1
      have HB1 := Lib.hid (hbel.grown hg1 hsz (fun k' hk' => (HO.out.lt k' hk').1))
      clear hown1 hg1
      go_wp2_with fail
      go_roundw
      case rel => exact ⟨k + 1, by omega, by go_num, by rw [encPart_succ s k hlt]; exact HO1.out, HB1.out⟩
      case measure => simp [intOf]; omega
    · obtain rfl : k = 8 := by omega
      have hconv := run_text_of_own hown
      go_wp2
      go_ret
      exact ⟨rfl, hbel⟩

end Go.Proofs.YtnkkckmejjcfkaaGreatDoor.Sp

/- Blocks that are known whole, and quiet calls: small words on memory. -/
namespace Go.Proofs.YtnkkckmejjcfkaaGreatDoor.Sp
open Go Go.RowKit
set_option maxRecDepth 100000

section
variable {w w' : World} {g : Nat} {t : TypeId} {cs : Array Value}
end
theorem quiet_left {P : Program} {f : FuncId} {args : Array Value} {w : World} {n : Nat} {v : Value}
    (h : Calls P f args (w.drewN n) fun e w' => e = .returned v ∧ w.drewN n = w') : Calls P f args (w.drewN n) fun e w' => e = .returned v ∧ ∃ m, w' = w.drewN m :=
  h.mono fun _ _ ⟨he, hw⟩ => ⟨he, n, hw.symm⟩

theorem below_setRow {B g : Nat} {a w : World} (h : Below B a w) (hg : B ≤ g) (cs : Array Value) : Below B a (w.setRow g cs) :=
  h.trans ⟨rfl, rfl, rfl, by simp [World.setRow], fun k hk => by simp only [World.setRow, Array.getElem?_modify]; rw [if_neg (by omega)]⟩
theorem Blk.row {w : World} {g : Nat} {t : TypeId} {cs : Array Value} (h : Blk w g t cs) (cs' : Array Value) : Blk (w.setRow g cs') g t cs' := setRow_heap w g cs cs' t (0, 0) h

/-- An array whose first words are known, the others still zero. -/
def part (l : List W) (n : Nat) : Array Value := arr (l ++ List.replicate (n - l.length) 0)
theorem part_set (l : List W) (x : W) (n : Nat) (h : l.length < n) : (part l n).setIfInBounds l.length (.int .u32 (U x)) = part (l ++ [x]) n := by
  unfold part arr
  obtain ⟨m, hm⟩ : ∃ m, n - l.length = m + 1 := ⟨n - l.length - 1, by omega⟩
  have hm2 : n - (l ++ [x]).length = m := by simp; omega
  rw [hm, hm2, List.setIfInBounds_toArray]
  congr 1
  rw [List.replicate_succ, List.map_append, List.map_cons, List.set_append_right _ _ (by simp)]
  simp [wordV]
theorem part_full (l : List W) (n : Nat) (h : l.length = n) : part l n = arr l := by simp [part, h]
theorem part_get (l : List W) (n i : Nat) (h : i < n) (hl : l.length ≤ n) : (part l n)[i]? = some (.int .u32 (U (gW l i))) := by
  unfold part
  rw [arr_get _ _ (by simp; omega)]
  unfold gW
  congr 3
  rw [List.getD_eq_getElem?_getD, List.getD_eq_getElem?_getD]
  by_cases hi : i < l.length
  · rw [List.getElem?_append_left hi]
  · rw [List.getElem?_append_right (by omega), List.getElem?_eq_none (by omega : l.length ≤ i)]
    rcases h2 : (List.replicate (n - l.length) (0 : W))[i - l.length]? with _ | y
    · rfl
    · have := List.mem_of_getElem? h2
      simp at this; simp [this]
theorem part_size (l : List W) (n : Nat) (hl : l.length ≤ n) : (part l n).size = n := by unfold part; rw [arr_size]; simp; omega

theorem words_succ (l : List UInt8) (k : Nat) : words l (k + 1) = words l k ++ [word l k] := by simp [words, List.range_succ]
theorem words_length (l : List UInt8) (k : Nat) : (words l k).length = k := by simp [words]
theorem of_ws (l : List W) (h : l.length = 8) : (St.of l).ws = l := by
  match l, h with
  | [a, b, c, d, e, f, g, i], _ => rfl
theorem gap8 : #[Value.int IntKind.u32 0, Value.int IntKind.u32 0, Value.int IntKind.u32 0, Value.int IntKind.u32 0, Value.int IntKind.u32 0, Value.int IntKind.u32 0, Value.int IntKind.u32 0, Value.int IntKind.u32 0] = part [] 8 := by
  kernel_rfl
end Go.Proofs.YtnkkckmejjcfkaaGreatDoor.Sp

/- Package sha: the padding. -/
namespace Go.Proofs.YtnkkckmejjcfkaaGreatDoor.Sp
open Go Go.RowKit
set_option maxRecDepth 100000

theorem pad_neg (n : Int) (h : n < 0) (w : World) : Calls Tryz.prog 78 #[.int .i64 n] w fun e w' => e = .returned (.string ⟨#[]⟩) ∧ w = w' := by
  go_enter Tryz.func78, Tryz.ntmps78
  go_wp2
  go_ret
  exact ⟨rfl, rfl⟩

theorem zeros_le (n : Nat) : zeros n ≤ 63 := by unfold zeros; omega
theorem run_make_pad (z : Nat) (hz : z ≤ 63) (u : World) : (Instr.makeSlice 62 (.int .i64 (1 + (z : Int))) (.int .i64 (1 + (z : Int) + 8))).run Tryz.prog u =
    .ok (.slice (some ⟨u.heap.size, 0, none⟩) (1 + z) (1 + z + 8)) (u.alloc (.cells (madeCells #[.int .u8 0] (1 + z + 8)) 5)) := by
  obtain ⟨i0, hi, hz0, hz1, hz2⟩ := info_parts infoByte
  have h := run_make (P := Tryz.prog) u 62 5 i0 (.int .u8 0) Tryz.underlying62 hi hz0 .i64 .i64 (1 + (z : Int)) (1 + (z : Int) + 8) (by omega) (by omega) (by rw [hz2]; omega) (by omega)
  have e1 : (1 + (z : Int)).toNat = 1 + z := by omega
  have e2 : (1 + (z : Int) + 8).toNat = 1 + z + 8 := by omega
  rw [e1, e2] at h
  simpa [hz1, Value.cells] using h
theorem own_pad (w : World) (z : Nat) (hz : z ≤ 63) (base : Nat) (hb : base ≤ w.heap.size) :
    Own (w.alloc (.cells ((madeCells #[.int .u8 0] (1 + z + 8)).setIfInBounds 0 (.int .u8 128)) 5)) base (.slice (some ⟨w.heap.size, 0, none⟩) (1 + z) (1 + z + 8)) ([128] ++ List.replicate z 0) := by
  refine ⟨by simp [byteVs], .inr ⟨w.heap.size, 1 + z + 8, _, ?_, hb, heap_alloc_new w _, ?_, ?_, ?_, ?_⟩⟩
  · simp; omega
  · simp; omega
  · unfold maxLen; omega
  · simp [size_madeCells]
  · rw [Array.toList_setIfInBounds, madeCells_toList]
    have e : List.replicate (1 + z + 8) (0 : UInt8) = 0 :: (List.replicate z 0 ++ List.replicate 8 0) := by
      rw [List.replicate_append_replicate, show 1 + z + 8 = (z + 8) + 1 by omega, List.replicate_succ]
    rw [e]
    simp [byteVs, byteV]

theorem madeCells_head (c : Nat) (h : 0 < c) : (madeCells #[.int .u8 0] c)[0]? = some (.int .u8 0) := by
  have e := madeCells_toList c
  obtain ⟨d, rfl⟩ : ∃ d, c = d + 1 := ⟨c - 1, by omega⟩
  rw [← Array.getElem?_toList, e]
  simp [byteVs, List.replicate_succ, byteV]
theorem pad_high (n : Nat) (_h : n ≤ 9223372036854775807) : IntKind.u64.wrap (8 * (n : Int)) / 4294967296 % 4294967296 = U (BitVec.ofNat 32 (8 * n / 4294967296)) := by
  unfold U; rw [BitVec.toNat_ofNat, IntKind.wrap_u64]; omega
theorem pad_low (n : Nat) (_h : n ≤ 9223372036854775807) : IntKind.u64.wrap (8 * (n : Int)) % 4294967296 = U (BitVec.ofNat 32 (8 * n)) := by
  unfold U; rw [BitVec.toNat_ofNat, IntKind.wrap_u64]; omega

set_option maxHeartbeats 400000 in
theorem pad_any (n : Nat) (h : n ≤ 9223372036854775807) (w : World) : Calls Tryz.prog 78 #[.int .i64 (n : Int)] w fun e w' => e = .returned (.string ⟨(pad n).toArray⟩) ∧ Below w.heap.size w w' := by
  obtain ⟨z, ez⟩ : ∃ z, z = zeros n := ⟨_, rfl⟩
  have hz : (64 - ((n : Int) % 64 + 1 + 8) % 64) % 64 = (z : Int) := by rw [ez]; unfold zeros; omega
  have hz63 : z ≤ 63 := by rw [ez]; exact zeros_le n
  have EZ := Lib.hid ez
  clear ez
  have hmk := run_make_pad z hz63
  have hm0 := madeCells_head (1 + z + 8) (by omega)
  have hA := pad_high n h
  have hB := pad_low n h
  go_enter Tryz.func78, Tryz.ntmps78
  go_wp2_with fail
  have HO0 := own_pad w z hz63 w.heap.size (Nat.le_refl _)
  refine (appendWord_any (BitVec.ofNat 32 (8 * n / 4294967296)) _ _ w.heap.size _ HO0 (by simp; omega) (by simp)).mono ?_
  rintro e w1 ⟨v1, rfl, hown1, hg1⟩
  have HO1 := Lib.hid hown1
  have HB1 := Lib.hid (((Below.refl w.heap.size w).alloc (Nat.le_refl _) _).grown hg1 (by simp) (fun k' hk' => (HO0.lt k' hk').1))
  have hsz := HB1.out.size
  clear hown1 hg1 HO0
  go_wp2_with fail
  refine (appendWord_any (BitVec.ofNat 32 (8 * n)) _ _ w.heap.size _ HO1.out (by simp [bytes4_length]; omega) hsz).mono ?_
  rintro e w2 ⟨v2, rfl, hown2, hg2⟩
  have HO2 := Lib.hid hown2
  have HB2 := Lib.hid (HB1.out.grown hg2 hsz (fun k' hk' => (HO1.out.lt k' hk').1))
  have hconv := run_text_of_own hown2
  clear hown2 hg2
  go_wp2_with fail
  go_ret
  exact ⟨ret_string (by unfold pad; rw [← EZ.out]; simp), HB2.out⟩

end Go.Proofs.YtnkkckmejjcfkaaGreatDoor.Sp

/- Package sha: the message schedule. -/
namespace Go.Proofs.YtnkkckmejjcfkaaGreatDoor.Sp
open Go Go.RowKit

attribute [local go_sem] add_U addm_U

theorem cells64 : (Tryz.prog.info? 116).map (·.size) = some 64 := by kernel_rfl
theorem gap64 : #[Value.int IntKind.u32 0, Value.int IntKind.u32 0, Value.int IntKind.u32 0, Value.int IntKind.u32 0, Value.int IntKind.u32 0, Value.int IntKind.u32 0, Value.int IntKind.u32 0, Value.int IntKind.u32 0, Value.int IntKind.u32 0, Value.int IntKind.u32 0, Value.int IntKind.u32 0, Value.int IntKind.u32 0, Value.int IntKind.u32 0, Value.int IntKind.u32 0, Value.int IntKind.u32 0, Value.int IntKind.u32 0, Value.int IntKind.u32 0, Value.int IntKind.u32 0, Value.int IntKind.u32 0, Value.int IntKind.u32 0, Value.int IntKind.u32 0, Value.int IntKind.u32 0, Value.int IntKind.u32 0, Value.int IntKind.u32 0, Value.int IntKind.u32 0, Value.int IntKind.u32 0, Value.int IntKind.u32 0, Value.int IntKind.u32 0, Value.int IntKind.u32 0, Value.int IntKind.u32 0, Value.int IntKind.u32 0, Value.int IntKind.u32 0, Value.int IntKind.u32 0, Value.int IntKind.u32 0, Value.int IntKind.u32 0, Value.int IntKind.u32 0, Value.int IntKind.u32 0, Value.int IntKind.u32 0, Value.int IntKind.u32 0, Value.int IntKind.u32 0, Value.int IntKind.u32 0, Value.int IntKind.u32 0, Value.int IntKind.u32 0, Value.int IntKind.u32 0, Value.int IntKind.u32 0, Value.int IntKind.u32 0, Value.int IntKind.u32 0, Value.int IntKind.u32 0, Value.int IntKind.u32 0, Value.int IntKind.u32 0, Value.int IntKind.u32 0, Value.int IntKind.u32 0, Value.int IntKind.u32 0, Value.int IntKind.u32 0, Value.int IntKind.u32 0, Value.int IntKind.u32 0, Value.int IntKind.u32 0, Value.int IntKind.u32 0, Value.int IntKind.u32 0, Value.int IntKind.u32 0, Value.int IntKind.u32 0, Value.int IntKind.u32 0, Value.int IntKind.u32 0, Value.int IntKind.u32 0] = part [] 64 := by kernel_rfl
theorem sched_length (l : List UInt8) (n : Nat) : (sched l n).length = 16 + n := by
  induction n with
  | zero => simp [sched, words_length]
  | succ n ih => simp [sched, ih]; omega

theorem at_diff (k d : Nat) (h : d ≤ k) (h2 : k < 64) : IntKind.i64.wrap ((k : Int) - (d : Int)) = (k : Int) - (d : Int) ∧ 0 ≤ (k : Int) - (d : Int) ∧ (k : Int) - (d : Int) < 64 ∧ ((k : Int) - (d : Int)).toNat = k - d :=
  ⟨by rw [IntKind.wrap_i64]; omega, by omega, by omega, by omega⟩

set_option maxRecDepth 100000 in
set_option maxHeartbeats 1000000 in
theorem schedule_any (s : ByteArray) (w : World) (hs : s.size = 64) :
    Calls Tryz.prog 95 #[.string s] w fun e w' => e = .returned (.agg (arr (sched s.data.toList 48))) ∧ Below w.heap.size w w' := by
  have HS := Lib.hid hs
  have hs1 : 64 ≤ s.size := by omega
  have hs2 : s.size ≤ 64 := by omega
  clear hs
  go_enter Tryz.func95, Tryz.ntmps95
  go_wp2_with fail
  go_loopw [6] (fun i wr => ∃ k : Nat, k ≤ 16 ∧ i = .int .i64 k ∧ Blk wr w.heap.size 116 (part [] 64) ∧ Blk wr (w.heap.size + 1) 116 (part (words s.data.toList k) 64) ∧ Below w.heap.size w wr) (fun i _ => 16 - (intOf i).toNat)
  case atStart =>
    exact ⟨0, by omega, rfl, by rw [gap64]; exact (Blk.new w _ _).alloc _, by rw [gap64]; exact heap_alloc2_new _ _ _, ((Below.refl _ _).alloc (Nat.le_refl _) _).alloc (by simp) _⟩
  case round =>
    obtain ⟨k, hk, rfl, hb1, hb2, hbel⟩ := hrel
    have H1 := Lib.hid hb1
    have H2 := Lib.hid hb2
    have H3 := Lib.hid hbel
    by_cases hlt : k < 16
    · have hcell : wr.cell? ⟨w.heap.size + 1, k, none⟩ = some (.int .u32 (U (gW (words s.data.toList k) k))) := by
        rw [hb2.cell, part_get _ _ _ (by omega) (by rw [words_length]; omega)]
      have hfro := hb2.frozen k
      clear hb1 hb2 hbel
      go_wp2_with fail
      refine (word_any s k (by omega) (by omega) _).mono ?_
      rintro e w1 ⟨rfl, n, rfl⟩
      go_wp2_with fail
      go_roundw
      case rel =>
        refine ⟨k + 1, by omega, by go_num, ?_, ?_, ?_⟩
        · exact (H1.out.drewN n).far (by simp) _
        · have h2 := (H2.out.drewN n).set_ k (.int .u32 (U (word s.data.toList k)))
          have e := part_set (words s.data.toList k) (word s.data.toList k) 64 (by rw [words_length]; omega)
          rw [words_length] at e
          rw [e] at h2
          rw [words_succ]; exact h2
        · exact (below_drewN H3.out n).setCell (by simp) _
      case measure => simp [intOf]; omega
    · obtain rfl : k = 16 := by omega
      simp only [Int.cast_ofNat_Int]
      clear hbel hb1 hb2
      obtain ⟨wo, ewo⟩ : ∃ wo : World, wo = wr := ⟨_, rfl⟩
      subst ewo
      go_wp2_with fail
      go_loopw [5] (fun i wx => ∃ k : Nat, 16 ≤ k ∧ k ≤ 64 ∧ i = .int .i64 k ∧ Blk wx w.heap.size 116 (part [] 64) ∧ Blk wx (w.heap.size + 1) 116 (part (sched s.data.toList (k - 16)) 64) ∧ Below w.heap.size w wx) (fun i _ => 64 - (intOf i).toNat)
      case atStart => exact ⟨16, by omega, by omega, rfl, H1.out, H2.out, H3.out⟩
      case round =>
        clear H1 H2 H3
        obtain ⟨k, hk0, hk, rfl, hb1, hb2, hbel⟩ := hrel
        have H1 := Lib.hid hb1
        have H2 := Lib.hid hb2
        have H3 := Lib.hid hbel
        by_cases hlt : k < 64
        · obtain ⟨S, eS⟩ : ∃ S, S = sched s.data.toList (k - 16) := ⟨_, rfl⟩
          have ES := Lib.hid eS
          have hSl : S.length = k := by rw [eS, sched_length]; omega
          have HSl := Lib.hid hSl
          have hcell : ∀ j, j < 64 → wr.cell? ⟨w.heap.size + 1, j, none⟩ = some (.int .u32 (U (gW S j))) := fun j hj => by
            rw [hb2.cell, ← eS, part_get _ _ _ hj (by omega)]
          have c0 := hcell k (by omega)
          have c2 := hcell (k - 2) (by omega)
          have c7 := hcell (k - 7) (by omega)
          have c15 := hcell (k - 15) (by omega)
          have c16 := hcell (k - 16) (by omega)
          have hfro := hb2.frozen k
          clear hcell hb1 hb2 hbel eS hSl
          obtain ⟨a2, b2, d2, e2⟩ := at_diff k 2 (by omega) hlt
          obtain ⟨a7, b7, d7, e7⟩ := at_diff k 7 (by omega) hlt
          obtain ⟨a15, b15, d15, e15⟩ := at_diff k 15 (by omega) hlt
          obtain ⟨a16, b16, d16, e16⟩ := at_diff k 16 (by omega) hlt
          simp only [Int.cast_ofNat_Int] at a2 b2 d2 e2 a7 b7 d7 e7 a15 b15 d15 e15 a16 b16 d16 e16
          have hki : (k : Int) < 64 := by omega
          have l2 : (2 : Int) ≤ (k : Int) := by omega
          have l7 : (7 : Int) ≤ (k : Int) := by omega
          have l15 : (15 : Int) ≤ (k : Int) := by omega
          have l16 : (16 : Int) ≤ (k : Int) := by omega
          go_wp2_with fail
          go_still_tail 23, (by kernel_rfl)
          still_call ((smallSigma1_any (gW S (k - 2)) _).mono fun _ _ h => ⟨h.1, h.2.symm⟩)
          repeat still_step
          still_call ((smallSigma0_any (gW S (k - 15)) _).mono fun _ _ h => ⟨h.1, h.2.symm⟩)
          repeat still_step
          refine wpStill_nil ?_
          clear c2 c7 c15 c16 a2 b2 d2 e2 a7 b7 d7 e7 a15 b15 d15 e15 a16 b16 d16 e16
          go_wp2_with fail
          go_roundw
          case rel =>
            refine ⟨k + 1, by omega, by omega, by go_num, ?_, ?_, ?_⟩
            · exact (H1.out.drew).far (by simp) _
            · have h2 := (H2.out.drew).set_ k (.int .u32 (U (next S k)))
              rw [← ES.out] at h2
              have e := part_set S (next S k) 64 (by rw [HSl.out]; exact hlt)
              rw [HSl.out] at e
              rw [e] at h2
              have e3 : sched s.data.toList (k + 1 - 16) = S ++ [next S k] := by
                rw [ES.out, show k + 1 - 16 = (k - 16) + 1 by omega, sched, show 16 + (k - 16) = k by omega]
              rw [e3]; exact h2
            · exact (H3.out.drew).setCell (by simp) _
          case measure => simp [intOf]; omega
        · obtain rfl : k = 64 := by omega
          clear hbel hb1 hb2
          rw [part_full _ _ (by rw [sched_length])] at H2
          go_wp2_with (first
            | (refine wpList_load_row rfl 116 (.tmp 3) rfl _ rfl 116 _ (0, 0) _ H2.out Tryz.underlying116 rfl (by rw [arr_size, sched_length]; exact cells64) ?_)
            | (refine wpList_store_row rfl 116 (.tmp 2) (.tmp 42) rfl w.heap.size (arr (sched s.data.toList 48)) rfl rfl 116 _ H1.out (by rw [arr_size, sched_length]; exact cells64) (by rw [arr_size, sched_length]; rfl) (arr_one _) ?_))
          exact ret_agg rfl w.heap.size _ _ _ rfl (H1.out.row _) rfl Tryz.underlying116 rfl (by rw [arr_size, sched_length]; exact cells64) ⟨rfl, below_setRow H3.out (Nat.le_refl _) _⟩

end Go.Proofs.YtnkkckmejjcfkaaGreatDoor.Sp
