/- The document's own answer for package sha: contracts of its functions. -/
import Derived.Test.YtnkkckmejjcfkaaGreatDoorGzI
import Derived.Deep.RegionLaw
import Derived.Deep.RegionHeld3
import Derived.Deep.AppendLies
namespace Go.Proofs.YtnkkckmejjcfkaaGreatDoor.Sp
open Go Go.RowKit

theorem shlw8_U (x : W) : IntKind.u32.wrap (U x * (256 : Int)) = U (x <<< 8) := shl_U x 8
theorem shlw16_U (x : W) : IntKind.u32.wrap (U x * (65536 : Int)) = U (x <<< 16) := shl_U x 16
theorem shlw24_U (x : W) : IntKind.u32.wrap (U x * (16777216 : Int)) = U (x <<< 24) := shl_U x 24
theorem rrot_U (x : W) (n : Nat) : bits .or .u32 (U x / 2 ^ n) (U x * 2 ^ (32 - n) % (4294967296 : Int)) = U (rotr x n) := by
  rw [shlm_U, shr_U, or_U]; rfl

attribute [local go_sem] shlw8_U shlw16_U shlw24_U add_U addm_U xor_U and_U or_U notm_U shr3_U shr10_U shl8_U shl16_U shl24_U byte_wrap

set_option maxHeartbeats 400000 in
theorem rrot_any (x : W) (n : Nat) (h1 : 1 ≤ n) (h2 : n ≤ 31) (w : World) :
    Calls Tryz.prog 98 #[.int .u32 (U x), .int .i64 (n : Int)] w fun e w' => e = .returned (.int .u32 (U (rotr x n))) ∧ ∃ k, w' = w.drewN k := by
  have k0 : (0 : Int) ≤ (n : Int) := by omega
  have k1 : (0 : Int) ≤ 32 - (n : Int) := by omega
  have k2 : IntKind.i64.wrap (32 - (n : Int)) = 32 - (n : Int) := by rw [IntKind.wrap_i64]; omega
  have k3 : (n : Int) ≤ 32 := by omega
  have k4 : 32 - (n : Int) ≤ 32 := by omega
  go_enter Tryz.func98, Tryz.ntmps98
  go_wp2_with fail
  go_quiet (fail)
  go_wp2_with fail
  go_ret
  exact ⟨ret_u32 (rrot_U x n), nq, rfl⟩

/-- A slice of words of the call's own. -/
def OwnW (w : World) (base : Nat) (v : Value) (ws : List W) : Prop := w.ownsRow base 100 1 v ws.length (ws.map wordV)

def Worded (ws : List W) (w : World) (e : Ending) (w' : World) : Prop := ∃ v, e = .returned v ∧ OwnW w' w.heap.size v ws ∧ Below w.heap.size w w'

theorem at_off (j k : Nat) (h : j + k ≤ 9223372036854775807) : IntKind.i64.wrap ((j : Int) + (k : Int)) = (j : Int) + (k : Int) ∧ 0 ≤ (j : Int) + (k : Int) ∧ ((j : Int) + (k : Int)).toNat = j + k :=
  ⟨by rw [IntKind.wrap_i64]; omega, by omega, by omega⟩

set_option maxHeartbeats 2000000 in
theorem rwords_any (s : ByteArray) (m : Nat) (hs : s.size = 4 * m) (hm : m ≤ 1000000) (w : World) :
    Calls Tryz.prog 97 #[.string s] w (Worded (words s.data.toList m) w) := by
  obtain ⟨i0, hi0, hz0, hz1, hz2⟩ := info_parts infoWord
  have HS := Lib.hid hs
  have hs1 : s.size ≤ 4 * m := by omega
  have hs2 : 4 * m ≤ s.size := by omega
  clear hs
  go_enter Tryz.func97, Tryz.ntmps97
  go_wp2_with fail
  go_loopw [3, 4] (fun v i wr => ∃ j : Nat, j % 4 = 0 ∧ j ≤ s.size ∧ OwnW wr w.heap.size v (words s.data.toList (j / 4)) ∧ i = .int .i64 (j : Int) ∧ Below w.heap.size w wr) (fun _ i _ => s.size - (intOf i).toNat)
  case atStart => exact ⟨0, rfl, Nat.zero_le _, World.ownsRow_nil _ _ _ _, rfl, Below.refl _ _⟩
  case round =>
    obtain ⟨j, hj, hjs, hown, rfl, hbel⟩ := hrel
    have HJ := Lib.hid hj
    have HO := Lib.hid hown
    have HB := Lib.hid hbel
    have hsz := hbel.size
    clear hj hown hbel
    by_cases hlt : j < s.size
    · have hj4 : j + 4 ≤ s.size := by have := HJ.out; omega
      have hw0 : (j : Int) < (s.size : Int) := by omega
      have hw1 : (j : Int) + 1 < (s.size : Int) := by omega
      have hw2 : (j : Int) + 2 < (s.size : Int) := by omega
      have hw3 : (j : Int) + 3 < (s.size : Int) := by omega
      have hw4 : (j : Int) + 4 ≤ (s.size : Int) := by omega
      obtain ⟨Xs, eX⟩ : ∃ Xs : List Value, Xs = (words s.data.toList (j / 4)).map wordV := ⟨_, rfl⟩
      obtain ⟨q, hq⟩ : ∃ q : Nat, q = j / 4 := ⟨_, rfl⟩
      have HOk := Lib.hid (show wr.ownsRow w.heap.size 100 1 u3 q Xs from by have := HO.out; unfold OwnW at this; rw [words_length] at this; rw [eX, hq]; exact this)
      have EX := Lib.hid eX
      have HQ := Lib.hid hq
      have hA : q + 1 ≤ maxLen := by unfold maxLen; omega
      have hB : (q + 1) * 4 ≤ 140737488355328 := by omega
      obtain ⟨Xw, hX⟩ : ∃ Xw : W, byteW (s[j]'hlt) <<< 24 ||| byteW (s[j + 1]'(by omega)) <<< 16 ||| byteW (s[j + 2]'(by omega)) <<< 8 ||| byteW (s[j + 3]'(by omega)) = Xw := ⟨_, rfl⟩
      have hXw := Lib.hid (show Xw = word s.data.toList (j / 4) from by
        have hj2 : 4 * (j / 4) = j := by have := HJ.out; omega
        rw [← hX]; unfold word
        rw [getD_data s j (4 * (j / 4)) hj2 hlt, getD_data s (j + 1) (4 * (j / 4) + 1) (by omega) (by omega), getD_data s (j + 2) (4 * (j / 4) + 2) (by omega) (by omega), getD_data s (j + 3) (4 * (j / 4) + 3) (by omega) (by omega)])
      have hbase : w.heap.size ≤ wr.heap.size + 1 := by omega
      clear eX hq
      obtain ⟨a1, b1, c1⟩ := at_off j 1 (by omega)
      obtain ⟨a2, b2, c2⟩ := at_off j 2 (by omega)
      obtain ⟨a3, b3, c3⟩ := at_off j 3 (by omega)
      have b0 : (0 : Int) ≤ (j : Int) := Int.natCast_nonneg _
      simp only [Int.cast_ofNat_Int] at a1 b1 c1 a2 b2 c2 a3 b3 c3
      have hOut := Lib.hid (show ∀ (w1 : World) (v : Value), w1.ownsRow w.heap.size 100 1 v (q + 1) (Xs ++ [.int .u32 (U Xw)]) → OwnW w1 w.heap.size v (words s.data.toList ((j + 4) / 4)) from by
        intro w1 v h1
        have e4 : (j + 4) / 4 = j / 4 + 1 := by omega
        unfold OwnW
        rw [e4, words_length, words_succ, List.map_append, ← EX.out, ← HQ.out]
        rw [HQ.out, ← hXw.out, ← HQ.out]
        exact h1)
      have hBel := Lib.hid (show ∀ (w1 : World) (o : Obj), (wr.alloc o).drew.grownBy w1 u3.ownBlock → Below w.heap.size w w1 from by
        intro w1 o hg
        exact ((HB.out.alloc hsz _).drew).grown hg (by simp; omega) (fun k' hk' => (HO.out.lt k' hk').1))
      go_wp2_with fail
      go_region_held3 (fun _ => True) (trivial) ((refine step_append_lies _ (by rfl) _ _ _ (by rfl) w.heap.size 100 i0 _ 1 4 Tryz.underlying119 hi0 hz0 hz1 hz2 rfl Nat.one_pos u3 q Xs (by rfl) ((World.ownsRow.alloc HOk.out _).drew) ⟨wr.heap.size, 0, none⟩ 1 1 _ (by rfl) (by rfl) (World.news_of_block (heap_alloc_new wr _)) (by simp [Value.oneCell']) Nat.one_pos hA hB (by simpa using hbase) (wr.heap.size + 1) (by simp) ?_; intro gg cap w1 hown1 hgrow hat hgl; have HN := Lib.hid (hOut.out _ _ hown1); have HBn := Lib.hid (hBel.out _ _ hgrow); clear hown1 hgrow hat hgl))
      all_goals
        go_wp2_with fail
        go_roundw
        case rel => exact ⟨j + 4, by have := HJ.out; omega, by omega, HN.out, by go_num, HBn.out⟩
        case measure => simp [intOf]; omega
    · have hjm : j / 4 = m := by have h1 := HS.out; have h2 := HJ.out; omega
      have HM := Lib.hid hjm
      have hw4 : ¬ (j : Int) + 4 ≤ (s.size : Int) := by omega
      clear hjm
      go_wp2_with fail
      go_ret
      exact ⟨u3, rfl, by rw [← HM.out]; exact HO.out, HB.out⟩

end Go.Proofs.YtnkkckmejjcfkaaGreatDoor.Sp

/- The document's own answer for package sha: the text of words. -/
namespace Go.Proofs.YtnkkckmejjcfkaaGreatDoor.Sp
open Go Go.RowKit

attribute [local go_sem] wrap8_U shr24_U shr16_U shr8_U

def textB (ws : List W) : ByteArray := ⟨(ws.flatMap bytes4).toArray⟩
theorem flat4_length (l : List W) : (l.flatMap bytes4).length = 4 * l.length := by
  induction l with
  | nil => rfl
  | cons x l ih => simp [List.flatMap_cons, ih, bytes4_length]; omega
theorem flat4_succ (ws : List W) (k : Nat) (hk : k < ws.length) : (ws.take (k + 1)).flatMap bytes4 = (ws.take k).flatMap bytes4 ++ bytes4 (gW ws k) := by
  rw [List.take_succ_eq_append_getElem hk, List.flatMap_append]
  unfold gW
  rw [List.getD_eq_getElem?_getD, List.getElem?_eq_getElem hk]
  simp

/-- n words from an address on. -/
def WCells (w : World) (b off n : Nat) (ws : List W) : Prop := ws.length = n ∧ ∀ j, j < n → w.cell? ⟨b, off + j, none⟩ = some (wordV (gW ws j))

set_option maxHeartbeats 2000000 in
theorem text_any (b off n c : Nat) (ws : List W) (w : World) (h : WCells w b off n ws) (hn : n ≤ 1000000) :
    Calls Tryz.prog 96 #[.slice (some ⟨b, off, none⟩) n c] w fun e w' => e = .returned (.string (textB ws)) ∧ Below w.heap.size w w' := by
  obtain ⟨i0, hi0, hz0, hz1, hz2⟩ := info_parts infoByte
  have HH := Lib.hid h
  clear h
  go_enter Tryz.func96, Tryz.ntmps96
  go_wp2_with fail
  go_loopw [3, 4] (fun v i wr => ∃ k : Nat, k ≤ n ∧ Own wr w.heap.size v ((ws.take k).flatMap bytes4) ∧ i = .int .i64 (k : Int) ∧ Below w.heap.size w wr) (fun _ i _ => n - (intOf i).toNat)
  case atStart => exact ⟨0, Nat.zero_le _, World.ownsRow_nil _ _ _ _, rfl, Below.refl _ _⟩
  case round =>
    obtain ⟨k, hk, hown, rfl, hbel⟩ := hrel
    have HO := Lib.hid hown
    have HB := Lib.hid hbel
    have hsz := hbel.size
    clear hown hbel
    by_cases hlt : k < n
    · obtain ⟨x, ex⟩ : ∃ x : W, x = gW ws k := ⟨_, rfl⟩
      have hcell0 := HH.out.2 k hlt
      have hbw : b < w.heap.size := block_lt_of_cell hcell0
      have hcell : wr.cell? ⟨b, off + k, none⟩ = some (.int .u32 (U x)) := by
        rw [ex]; exact (HB.out.cell (p := ⟨b, off + k, none⟩) hbw).trans hcell0
      have hki : (k : Int) < (n : Int) := by omega
      have hk0 : (0 : Int) ≤ (k : Int) := by omega
      have EXx := Lib.hid ex
      clear ex hcell0
      have hlk : ((ws.take k).flatMap bytes4).length = 4 * k := by rw [flat4_length, List.length_take, HH.out.1]; omega
      obtain ⟨q, hq⟩ : ∃ q : Nat, q = 4 * k := ⟨_, rfl⟩
      obtain ⟨Xs, eX⟩ : ∃ Xs : List Value, Xs = byteVs ((ws.take k).flatMap bytes4) := ⟨_, rfl⟩
      have HOk := Lib.hid (show wr.ownsRow w.heap.size 5 1 u3 q Xs from by have := HO.out; unfold Own at this; rw [hlk] at this; rw [eX, hq]; exact this)
      have EX := Lib.hid eX
      have HQ := Lib.hid hq
      have hA : q + 4 ≤ maxLen := by unfold maxLen; omega
      have hB : (q + 4) * 1 ≤ 140737488355328 := by omega
      have ak := Lib.hid (show Value.ownBlock u3 ≠ some b from fun e => by have := (HO.out.lt b e).1; omega)
      have HLK := Lib.hid hlk
      have hbase : w.heap.size ≤ wr.heap.size + 1 := by omega
      have hbr : b < wr.heap.size + 1 := by omega
      clear eX hq hlk
      have hOut := Lib.hid (show ∀ (w1 : World) (v : Value), w1.ownsRow w.heap.size 5 1 v (q + 4) (Xs ++ byteVs (bytes4 x)) → Own w1 w.heap.size v ((ws.take (k + 1)).flatMap bytes4) from by
        intro w1 v h1
        unfold Own
        rw [flat4_succ ws k (by rw [HH.out.1]; exact hlt), List.length_append, byteVs_append, ← EX.out, HLK.out, ← HQ.out, bytes4_length, ← EXx.out]
        exact h1)
      have hBel := Lib.hid (show ∀ (w1 : World) (o : Obj), (wr.alloc o).drew.grownBy w1 u3.ownBlock → Below w.heap.size w w1 from by
        intro w1 o hg
        exact ((HB.out.alloc hsz _).drew).grown hg (by simp; omega) (fun k' hk' => (HO.out.lt k' hk').1))
      go_wp2_with fail
      go_region_held3 (fun w' => w'.cell? ⟨b, off + k, none⟩ = some (.int .u32 (U x))) (first
        | go_keep
        | (rw [hgrow.cell_far _ (by simp; omega) (Ne.symm ak.out)]; assumption))
        ((refine step_append_lies _ (by rfl) _ _ _ (by rfl) w.heap.size 5 i0 _ 1 1 Tryz.underlying62 hi0 hz0 hz1 hz2 rfl Nat.one_pos u3 q Xs (by rfl) ((World.ownsRow.alloc HOk.out _).drew) ⟨wr.heap.size, 0, none⟩ 4 4 _ (by rfl) (by rfl) (World.news_of_block (heap_alloc_new wr _)) (by simp [Value.oneCell']) (by decide) hA hB (by simpa using hbase) (wr.heap.size + 1) (by simp) ?_; intro gg cap w1 hown1 hgrow hat hgl; have HN := Lib.hid (hOut.out _ _ hown1); have HBn := Lib.hid (hBel.out _ _ hgrow)))
      all_goals
        clear hown1 hgrow hat hgl
        go_wp2_with fail
        go_roundw
        case rel => exact ⟨k + 1, by omega, HN.out, by go_num, HBn.out⟩
        case measure => simp [intOf]; omega
    · have hki : ¬ (k : Int) < (n : Int) := by omega
      have hkn : k = n := by omega
      have hall := Lib.hid (show Own wr w.heap.size u3 (ws.flatMap bytes4) from by
        have := HO.out
        rw [hkn, ← HH.out.1, List.take_length] at this
        exact this)
      clear hkn
      have hconv := run_text_of_own hall.out
      go_wp2_with fail
      go_ret
      exact ⟨rfl, HB.out⟩

end Go.Proofs.YtnkkckmejjcfkaaGreatDoor.Sp
