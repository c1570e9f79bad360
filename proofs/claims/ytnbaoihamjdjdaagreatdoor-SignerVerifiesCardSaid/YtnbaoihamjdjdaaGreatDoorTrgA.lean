/- Package tree: Node; the element above two, with its text. -/
import Derived.Test.YtnbaoihamjdjdaaGreatDoorShaPb
import Derived.Test.YtnbaoihamjdjdaaGreatDoorTreB
import Derived.Deep.RegionLaw
import Derived.BigQuiet
import Derived.Test.YtnbaoihamjdjdaaGreatDoorMem
import Derived.Lib.BufferWrite
import Derived.Lib.UnsafeStr
import Derived.Laws.MakeOwn
import Derived.Deep.Cut
namespace Go.Proofs.YtnbaoihamjdjdaaGreatDoor.Sp
open Go Go.RowKit
set_option maxRecDepth 100000

/-- A block of texts, as a list of texts. -/
theorem strs_of_blk_ {w : World} {g : Nat} {t : TypeId} {ss : List ByteArray} {n : Nat} (h : Blk w g t (ss.map Value.string).toArray) (hn : ss.length = n) : Strs w (some ⟨g, 0, none⟩) n ss := by
  refine ⟨hn, fun _ => ⟨g, 0, rfl, fun j hj => ?_⟩⟩
  have hl : j < ss.length := by omega
  rw [h.cell]
  simp [List.getD, hl]
theorem len2_two_ (a b : ByteArray) : len2 [a, b] 2 = 9 + a.size + b.size := by simp [len2]; omega
theorem inpB_size (a b : ByteArray) : (inpB a b).size = 9 + a.size + b.size := by
  rw [← len2_two_, ← size_list]
  show (inB 5 [a, b]).length = _
  rw [← inp_all, inp_length]
  rfl

set_option maxHeartbeats 1000000 in
theorem tnode_any (a b : ByteArray) (w : World) (h : a.size + b.size ≤ 281474976710647) (hT : Tab w) :
    Calls Tryz.prog 60 #[.string a, .string b] w fun e w' => e = .returned (.string (nodeB a b)) ∧ Below w.heap.size w w' := by
  have HL := Lib.hid (show len2 [a, b] 2 ≤ 281474976710656 from by rw [len2_two_]; omega)
  have HT := Lib.hid hT
  have B0 := Lib.hid ((Below.refl w.heap.size w).alloc (Nat.le_refl _) (.cells #[.string a, .string b] 9))
  have T0 := Lib.hid (hT.below B0.out hT.lt)
  clear hT h
  go_enter Tryz.func60, Tryz.ntmps60
  go_wp2_with fail
  refine (tag_any 5 _ 2 2 [a, b] _ (strs_of_blk_ (ss := [a, b]) (Blk.new w 9 _) rfl) (by omega) HL.out T0.out).mono ?_
  rintro e w3 ⟨rfl, h3⟩
  have B3 := Lib.hid (B0.out.trans (h3.mono B0.out.size))
  clear h3
  go_wp2_with fail
  go_ret
  exact ⟨rfl, B3.out⟩
end Go.Proofs.YtnbaoihamjdjdaaGreatDoor.Sp

/- Rows of texts that are made and then filled in place. -/
namespace Go.Proofs.YtnbaoihamjdjdaaGreatDoor.Sp
open Go Go.RowKit
set_option maxRecDepth 100000

/-- So many texts, of which the first k are there. -/
def fillS (U : List ByteArray) (n k : Nat) : Array Value := ((List.range n).map fun c => Value.string (if c < k then U.getD c .empty else .empty)).toArray
theorem fillS_made (U : List ByteArray) (n : Nat) : madeCells #[Value.string .empty] n = fillS U n 0 := by
  unfold madeCells fillS
  apply Array.toList_inj.1
  simp [Array.toList_map, Array.toList_range]
  intro a _
  rw [Nat.mod_one]
  rfl
theorem fillS_size (U : List ByteArray) (n k : Nat) : (fillS U n k).size = n := by simp [fillS]
theorem fillS_get (U : List ByteArray) (n k : Nat) (hk : k < n) : (fillS U n k)[k]? = some (.string .empty) := by
  simp [fillS, hk]
theorem fillS_set (U : List ByteArray) (n k : Nat) (_hk : k < n) : (fillS U n k).setIfInBounds k (.string (U.getD k .empty)) = fillS U n (k + 1) := by
  apply Array.toList_inj.1
  rw [Array.toList_setIfInBounds]
  apply List.ext_getElem
  · simp [fillS]
  · intro j h1 h2
    simp only [fillS, List.getElem_set, List.getElem_map, List.getElem_range]
    by_cases hjk : k = j
    · subst hjk
      simp
    · rw [if_neg hjk]
      rcases Nat.lt_or_ge j k with h | h
      · rw [if_pos h, if_pos (by omega)]
      · rw [if_neg (by omega), if_neg (by omega)]
theorem fillS_strs {U : List ByteArray} {n g : Nat} {w : World} (h : Blk w g 9 (fillS U n n)) (hU : U.length = n) : Strs w (some ⟨g, 0, none⟩) n U := by
  refine ⟨hU, fun _ => ⟨g, 0, rfl, fun j hj => ?_⟩⟩
  rw [h.cell]
  simp [fillS, hj]

theorem run_make_strs (n : Nat) (hn : n ≤ 1000) (u : World) : (Instr.makeSlice 22 (.int .i64 (n : Int)) (.int .i64 (n : Int))).run Tryz.prog u =
    .ok (.slice (some ⟨u.heap.size, 0, none⟩) n n) (u.alloc (.cells (madeCells #[.string .empty] n) 9)) := by
  obtain ⟨i0, hi, hz0, hz1, hz2⟩ := info_parts infoText
  have h := run_make (P := Tryz.prog) u 22 9 i0 (.string .empty) Tryz.underlying22 hi hz0 .i64 .i64 (n : Int) (n : Int) (by omega) (by omega) (by rw [hz2]; omega) (by omega)
  simpa [hz1, Value.cells] using h
end Go.Proofs.YtnbaoihamjdjdaaGreatDoor.Sp

/- Package tree: the level above one, of bare values. -/
namespace Go.Proofs.YtnbaoihamjdjdaaGreatDoor.Sp
open Go Go.RowKit
set_option maxRecDepth 100000

set_option maxHeartbeats 2000000 in
theorem aboveS_any (l : List ByteArray) (a : Option Addr) (n cap : Nat) (hn : n ≤ 128) (hM : ∀ x ∈ l, ∀ y ∈ l, x.size + y.size ≤ 281474976710647) (w : World) (hl : Strs w a n l) (hT : Tab w) :
    Calls Tryz.prog 59 #[.slice a n cap, .func (.func 60) #[] #[]] w (TextsTo (aboveB l) w) := by
  have hlen := hl.1
  have HL := Lib.hid hl
  have HT := Lib.hid hT
  have HM := Lib.hid hM
  obtain ⟨h, hh⟩ : ∃ h, n / 2 = h := ⟨_, rfl⟩
  have hq : (n : Int).tdiv 2 = (h : Int) := by rw [Int.tdiv_eq_ediv_of_nonneg (by omega)]; omega
  have hq' : (n : Int) / 2 = (h : Int) := by omega
  have hqw : IntKind.i64.wrap (h : Int) = (h : Int) := by rw [IntKind.wrap_i64]; omega
  obtain ⟨U, hU⟩ : ∃ U, aboveB l = U := ⟨_, rfl⟩
  have hUl : U.length = h := by rw [← hU, above_len, hlen, hh]
  have HU := Lib.hid hU
  have HUl := Lib.hid hUl
  have hmk := run_make_strs h (by omega) w
  rw [fillS_made U] at hmk
  rw [hU]
  clear hl hT hM hU hUl
  go_enter Tryz.func59, Tryz.ntmps59
  go_wp2_with fail
  go_loopw [13] (fun y wr => ∃ k : Nat, k ≤ h ∧ y = .int .i64 (k : Int) ∧ Blk wr w.heap.size 9 (fillS U h k) ∧ Below w.heap.size w wr) (fun y _ => h - (intOf y).toNat)
  case atStart => exact ⟨0, by omega, rfl, Blk.new _ _ _, (Below.refl _ _).alloc (Nat.le_refl _) _⟩
  case round =>
    obtain ⟨k, hk, rfl, hblk, hbel⟩ := hrel
    have HK := Lib.hid hblk
    have HB := Lib.hid hbel
    have hbz := hbel.size
    have HTr := Lib.hid (HT.out.below hbel HT.out.lt)
    clear hblk hbel hmk hq hq' hqw
    by_cases hlt : k < h
    · have hki : (k : Int) < (h : Int) := by omega
      have hk0 : (0 : Int) ≤ (k : Int) := by omega
      obtain ⟨p, hp⟩ : ∃ p : Nat, 2 * k = p := ⟨_, rfl⟩
      obtain ⟨q, hq⟩ : ∃ q : Nat, p + 1 = q := ⟨_, rfl⟩
      have hpi : (2 : Int) * (k : Int) = (p : Int) := by omega
      have hpw : IntKind.i64.wrap (p : Int) = (p : Int) := by rw [IntKind.wrap_i64]; omega
      have hqi : (p : Int) + 1 = (q : Int) := by omega
      have hqw : IntKind.i64.wrap (q : Int) = (q : Int) := by rw [IntKind.wrap_i64]; omega
      have hpn : (p : Int) < (n : Int) := by omega
      have hqn : (q : Int) < (n : Int) := by omega
      have hp0 : (0 : Int) ≤ (p : Int) := by omega
      have hq0 : (0 : Int) ≤ (q : Int) := by omega
      obtain ⟨b, off, rfl, hcell⟩ := HL.out.2 (by omega)
      have hbw0 : b < w.heap.size := block_lt_of_cell (hcell p (by omega))
      obtain ⟨X, hX⟩ : ∃ X, l.getD p ByteArray.empty = X := ⟨_, rfl⟩
      obtain ⟨Y, hY⟩ : ∃ Y, l.getD q ByteArray.empty = Y := ⟨_, rfl⟩
      have c1 : wr.cell? ⟨b, off + p, none⟩ = some (.string X) := by rw [← hX]; exact (HB.out.cell (p := ⟨b, off + p, none⟩) hbw0).trans (hcell p (by omega))
      have c2 : wr.cell? ⟨b, off + q, none⟩ = some (.string Y) := by rw [← hY]; exact (HB.out.cell (p := ⟨b, off + q, none⟩) hbw0).trans (hcell q (by omega))
      have hXY : X.size + Y.size ≤ 281474976710647 := by
        rw [← hX, ← hY]
        exact HM.out _ (getD_mem_ l p (by omega)) _ (getD_mem_ l q (by omega))
      obtain ⟨W, hW⟩ : ∃ W, nodeB X Y = W := ⟨_, rfl⟩
      have hUk : U.getD k .empty = W := by rw [← HU.out, above_get l k (by omega), hp, hq, hX, hY, hW]
      have HW := Lib.hid (fun w ht => tnode_any X Y w hXY ht)
      rw [hW] at HW
      have hset := Lib.hid (show (fillS U h k).setIfInBounds k (.string W) = fillS U h (k + 1) from by rw [← hUk]; exact fillS_set U h k hlt)
      have Hlt := Lib.hid hlt
      clear hcell hX hY hW hUk hp hq hXY hlt hh
      go_wp2_with fail
      go_region_law (go_simp; go_at_call 60; refine (HW.out _ (by first | exact HTr.out | exact (show Tab wr.drew from HTr.out))).mono ?_; rintro e w2 ⟨rfl, h2⟩; have h2 : Below wr.heap.size wr w2 := (by first | exact h2 | exact below_of_drew h2 | exact below_of_drew (below_of_drew h2)); have B2 := Lib.hid (HB.out.trans (h2.mono HB.out.size)); have K2 := Lib.hid (HK.out.below h2 HK.out.lt); have hc2 := K2.out.cell k; rw [fillS_get U h k Hlt.out] at hc2; have hf2 := K2.out.frozen k; clear h2)
      all_goals
        go_wp2_with fail
        go_roundw
        case rel => exact ⟨k + 1, Hlt.out, by go_num, by rw [← hset.out]; exact K2.out.set_ k _, B2.out.setCell (p := ⟨w.heap.size, k, none⟩) (Nat.le_refl _) _⟩
        case measure => simp [intOf]; omega
    · have hki : ¬ (k : Int) < (h : Int) := by omega
      obtain rfl : k = h := by omega
      go_wp2_with fail
      go_ret
      refine ⟨some ⟨w.heap.size, 0, none⟩, k, by rw [HUl.out]; rfl, ?_, HB.out, fun p hp => by injection hp with hp; subst hp; exact Nat.le_refl _, by rw [HUl.out]; exact Nat.le_refl _⟩
      rw [HUl.out]
      exact fillS_strs HK.out HUl.out
end Go.Proofs.YtnbaoihamjdjdaaGreatDoor.Sp

/- Package tree: how many leaves there may be; the other one of a pair. -/
namespace Go.Proofs.YtnbaoihamjdjdaaGreatDoor.Sp
open Go Go.RowKit
set_option maxRecDepth 100000

theorem may_bits (n : Nat) (h1 : 1 ≤ n) (h2 : n ≤ 128) : (bits .and .i64 (n : Int) ((n - 1 : Nat) : Int) == 0) = decide (mayN n) := by
  have h : ∀ k : Fin 129, 1 ≤ k.1 → (bits .and .i64 (k.1 : Int) ((k.1 - 1 : Nat) : Int) == 0) = decide (mayN k.1) := by decide +kernel
  exact h ⟨n, by omega⟩ h1
theorem sib_bits (i : Nat) (h : i ≤ 128) : bits .xor .i64 (i : Int) 1 = ((sib i : Nat) : Int) := by
  have e : ∀ k : Fin 129, bits .xor .i64 (k.1 : Int) 1 = ((sib k.1 : Nat) : Int) := by decide +kernel
  exact e ⟨i, by omega⟩

set_option maxHeartbeats 1000000 in
theorem tvalid_any (n : Nat) (hn : n ≤ 9223372036854775807) (a : Option Addr) (cap : Nat) (w : World) :
    Calls Tryz.prog 58 #[.slice a n cap] w fun e w' => e = .returned (.bool (decide (mayN n))) ∧ w = w' := by
  rcases Nat.eq_zero_or_pos n with h0 | h0
  · subst h0
    rw [show decide (mayN 0) = false from by decide +kernel]
    go_enter Tryz.func58, Tryz.ntmps58
    go_wp2_with fail
    go_ret
    exact ⟨rfl, rfl⟩
  · rcases Nat.lt_or_ge 128 n with h1 | h1
    · have hm : decide (mayN n) = false := decide_eq_false (by rintro ⟨h, h7, e⟩; have : 2 ^ h ≤ 2 ^ 7 := Nat.pow_le_pow_right (by omega) h7; omega)
      rw [hm]
      have hi : ¬ (n : Int) ≤ 128 := by omega
      have hi0 : (0 : Int) < (n : Int) := by omega
      clear hm h0 h1
      go_enter Tryz.func58, Tryz.ntmps58
      go_wp2_with fail
      go_ret
      exact ⟨rfl, rfl⟩
    · have hb := may_bits n h0 h1
      have hi : (n : Int) ≤ 128 := by omega
      have hi0 : (0 : Int) < (n : Int) := by omega
      obtain ⟨R, hR⟩ : ∃ R, decide (mayN n) = R := ⟨_, rfl⟩
      obtain ⟨m, hm⟩ : ∃ m, n - 1 = m := ⟨_, rfl⟩
      rw [hR, hm] at hb
      rw [hR]
      have HB := Lib.hid hb
      have hmi : (n : Int) - 1 = (m : Int) := by omega
      have hmw : IntKind.i64.wrap (m : Int) = (m : Int) := by rw [IntKind.wrap_i64]; omega
      clear hR hb
      go_enter Tryz.func58, Tryz.ntmps58
      go_wp2_with fail
      go_ret
      exact ⟨congrArg (fun b => Ending.returned (Value.bool b)) HB.out, rfl⟩

theorem tsib_any (i : Nat) (h : i ≤ 128) (w : World) :
    Calls Tryz.prog 61 #[.int .i64 (i : Int)] w fun e w' => e = .returned (.int .i64 ((sib i : Nat) : Int)) ∧ w = w' := by
  have hb := sib_bits i h
  go_enter Tryz.func61, Tryz.ntmps61
  go_wp2_with fail
  go_ret
  exact ⟨rfl, rfl⟩
end Go.Proofs.YtnbaoihamjdjdaaGreatDoor.Sp

/- strings.Clone: a copy of a text's own. (No layer is named here.) -/
namespace Go.Proofs.YtnbaoihamjdjdaaGreatDoor.Sp
open Go Go.RowKit
set_option maxRecDepth 100000

set_option maxHeartbeats 1000000 in
theorem lite_any (s : ByteArray) (w : World) (hlim : s.size ≤ 140737488355328) :
    Calls Tryz.prog 48 #[.string s] w fun e w' => e = .returned (.string s) ∧ Below w.heap.size w w' := by
  by_cases h0 : s.size = 0
  · have hs : s = ⟨#[]⟩ := ByteArray.ext (Array.eq_empty_of_size_eq_zero h0)
    subst hs
    go_enter Tryz.func48, Tryz.ntmps48
    go_wp2
    go_ret
    exact ⟨rfl, Below.refl _ _⟩
  · obtain ⟨i0, hi, hz0, hz1, hz2⟩ := info_parts infoByte
    obtain ⟨M, hM⟩ : ∃ M, M = madeCells #[Value.int .u8 0] s.size := ⟨_, rfl⟩
    have hMs : M.size = s.size := by rw [hM, size_madeCells]
    have hmk : ∀ W : World, (Instr.makeSlice 68 (.int .i64 (s.size : Int)) (.int .i64 (s.size : Int))).run Tryz.prog W = .ok (.slice (some ⟨W.heap.size, 0, none⟩) s.size s.size) (W.alloc (.cells M 5)) := fun W => by
      have h := run_make (P := Tryz.prog) W 68 5 i0 (.int .u8 0) Tryz.underlying68 hi hz0 .i64 .i64 (s.size : Int) (s.size : Int) (by omega) (by omega) (by rw [hz2]; omega) (by omega)
      rw [hM]
      simpa [hz1, Value.cells] using h
    clear hM
    have hinfo : (Tryz.prog.info? 5).map (·.size) = some 1 := by rw [hi]; simp [hz1]
    have hcp := Lib.run_copy_row_string (P := Tryz.prog) (w.alloc (.cells M 5)) 68 9 3 5 w.heap.size 0 s.size s.size s M 5 Tryz.underlying68 hinfo (heap_alloc_new w _) (Nat.le_refl _) (by omega)
    obtain ⟨Y, hY⟩ : ∃ Y, Y = (M.toList.take 0 ++ Lib.byteCells s.data.toList ++ M.toList.drop (0 + s.size)).toArray := ⟨_, rfl⟩
    rw [← hY] at hcp
    have hYl : Y.toList = Lib.byteCells s.data.toList := by
      rw [hY, List.toList_toArray, List.take_zero, List.nil_append, List.drop_of_length_le (by rw [Array.length_toList]; omega), List.append_nil]
    have hYs : Y.size = s.size := by rw [← Array.length_toList, hYl, Lib.byteCells_length, ← Lib.size_eq]
    have hgY : ((w.alloc (.cells M 5)).setRow w.heap.size Y).heap[w.heap.size]? = some (.cells Y 5 (0, 0)) := setRow_heap _ _ M _ 5 (0, 0) (heap_alloc_new w _)
    have hne : s.data.toList ≠ [] := fun e => h0 (by rw [Lib.size_eq, e]; rfl)
    have hco : Tryz.prog.cellsOf 5 = 1 := by kernel_rfl
    have hUS := Lib.run_unsafeString_row (P := Tryz.prog) ((w.alloc (.cells M 5)).setRow w.heap.size Y) 94 3 9 5 Tryz.underlying94 hco w.heap.size Y.size (by unfold World.shape?; rw [hgY]) s.data.toList hne (by rw [← Lib.size_eq]; omega) (by rw [← Lib.size_eq]; omega)
      (fun j x hx => Lib.cells_of_row hgY Y.size j _ (by rw [List.take_of_length_le (by rw [Array.length_toList]; exact Nat.le_refl _), hYl]; simp [Lib.byteCells, hx]))
    rw [← Lib.size_eq] at hUS
    have hb2 : Below w.heap.size (w.alloc (.cells M 5)) ((w.alloc (.cells M 5)).setRow w.heap.size Y) := ⟨rfl, rfl, rfl, by simp, fun k hk => setRow_other _ _ _ _ (by omega)⟩
    have HB2 := Lib.hid (((Below.refl _ w).alloc (Nat.le_refl _) _).trans hb2)
    clear hY hb2
    go_enter Tryz.func48, Tryz.ntmps48
    go_wp2_with fail
    go_ret
    exact ⟨rfl, Lib.below_freeze HB2.out (p := ⟨w.heap.size, 0, none⟩) (Nat.le_refl _) _⟩

theorem clone_any (s : ByteArray) (w : World) (hlim : s.size ≤ 140737488355328) :
    Calls Tryz.prog 17 #[.string s] w fun e w' => e = .returned (.string s) ∧ Below w.heap.size w w' := by
  go_enter Tryz.func17, Tryz.ntmps17
  go_wp2_with fail
  refine (lite_any s _ hlim).mono ?_
  rintro e w1 ⟨rfl, h1⟩
  have H1 := Lib.hid h1
  clear h1
  go_wp2_with fail
  go_ret
  exact ⟨rfl, H1.out⟩
end Go.Proofs.YtnbaoihamjdjdaaGreatDoor.Sp

/- Package tree: Root. -/
namespace Go.Proofs.YtnbaoihamjdjdaaGreatDoor.Sp
open Go Go.RowKit
set_option maxRecDepth 100000

def sliceLen : Value → Nat
  | .slice _ n _ => n
  | _ => 0
theorem ups_small (l : List ByteArray) (hM : ∀ x ∈ l, ∀ y ∈ l, x.size + y.size ≤ 281474976710647) : ∀ k, ∀ x ∈ upB k l, ∀ y ∈ upB k l, x.size + y.size ≤ 281474976710647 := by
  intro k
  cases k with
  | zero => exact hM
  | succ k =>
    intro x hx y hy
    rw [up_succ] at hx hy
    rw [above_size _ x hx, above_size _ y hy]
    omega

set_option maxHeartbeats 2000000 in
theorem troot_any (l : List ByteArray) (a : Option Addr) (n cap : Nat) (w : World) (hn : n ≤ 9223372036854775807) (hM : ∀ x ∈ l, ∀ y ∈ l, x.size + y.size ≤ 281474976710647) (hl : Strs w a n l) (hT : Tab w) :
    Calls Tryz.prog 32 #[.slice a n cap] w fun e w' => e = .returned (.string (rootB l)) ∧ Below w.heap.size w w' := by
  have hlen := hl.1
  by_cases hm : mayN n
  · have hdec : decide (mayN n) = true := decide_eq_true hm
    obtain ⟨h, h7, e⟩ := hm
    have hR := root_pow l h h7 (by rw [hlen, e])
    obtain ⟨R, hRR⟩ : ∃ R, rootB l = R := ⟨_, rfl⟩
    rw [hRR]
    rw [hRR] at hR
    have HR := Lib.hid hR
    have HE := Lib.hid (show l.length = 2 ^ h from by rw [hlen, e])
    have HEn := Lib.hid e
    have Hmay := Lib.hid (tvalid_any n hn a cap)
    rw [hdec] at Hmay
    have HU := Lib.hid (ups_small l hM)
    have HL := Lib.hid hl
    have HT := Lib.hid hT
    clear hl hT hM hR hRR e hdec
    go_enter Tryz.func32, Tryz.ntmps32
    go_wp2_with fail
    refine (Hmay.out w).mono ?_
    rintro e w1 ⟨rfl, rfl⟩
    go_wp2_with fail
    go_loopw [3] (fun x wr => ∃ (k m : Nat) (a' : Option Addr) (c' : Nat), k + m = h ∧ x = .slice a' (2 ^ m) c' ∧ Strs wr a' (2 ^ m) (upB k l) ∧ Below w.heap.size w wr) (fun x _ => sliceLen x)
    case atStart => exact ⟨0, h, a, cap, by omega, by rw [← HEn.out], by rw [← HEn.out]; exact HL.out, Below.refl _ _⟩
    case round =>
      obtain ⟨k, m, a', c', hkm, rfl, hs, hbel⟩ := hrel
      have HS := Lib.hid hs
      have HTr := Lib.hid (HT.out.below hbel HT.out.lt)
      have HB := Lib.hid hbel
      clear hs hbel
      obtain ⟨N, hN⟩ : ∃ N, 2 ^ m = N := ⟨_, rfl⟩
      rw [hN] at HS ⊢
      have hN128 : N ≤ 128 := by rw [← hN]; exact Nat.pow_le_pow_right (by omega : 0 < 2) (by omega : m ≤ 7)
      have hul := HS.out.1
      cases m with
      | zero =>
        obtain rfl : N = 1 := hN.symm
        obtain rfl : k = h := by omega
        obtain ⟨b, off, rfl, hc⟩ := HS.out.2 (by omega)
        have c0 : wr.cell? ⟨b, off, none⟩ = some (.string R) := by rw [HR.out]; exact hc 0 (by omega)
        have hRs : R.size ≤ 140737488355328 := by
          have h9 := HU.out k R (by rw [HR.out]; exact getD_mem_ _ 0 (by omega)) R (by rw [HR.out]; exact getD_mem_ _ 0 (by omega))
          omega
        clear hN hc
        go_wp2_with fail
        refine (clone_any R _ hRs).mono ?_
        rintro e w3 ⟨rfl, h3⟩
        have B3 := Lib.hid (HB.out.trans (h3.mono HB.out.size))
        clear h3
        go_wp2_with fail
        go_ret
        exact ⟨rfl, B3.out⟩
      | succ m =>
        have hN2 : N = 2 * 2 ^ m := by have h9 : 2 ^ (m + 1) = 2 * 2 ^ m := (by rw [Nat.pow_succ, Nat.mul_comm]); omega
        have hpos : 0 < 2 ^ m := Nat.pow_pos (by omega)
        have hNi : 1 < (N : Int) := by omega
        have HA2 := Lib.hid (aboveS_any (upB k l) a' N c' hN128 (HU.out k) wr HS.out HTr.out)
        have hnl : (aboveB (upB k l)).length = 2 ^ m := by have h9 := above_len (upB k l); omega
        have Hnl := Lib.hid hnl
        have Hlt := Lib.hid (show 2 ^ m < N from by omega)
        have Hkm := Lib.hid (show k + 1 + m = h from by omega)
        clear hN hN2 hpos hnl hkm
        go_wp2_with fail
        refine HA2.out.mono ?_
        rintro e w2 ⟨a2, c2, rfl, hs2, h2, _⟩
        have B2 := Lib.hid (HB.out.trans (h2.mono HB.out.size))
        have S2 := Lib.hid hs2
        clear hs2 h2
        go_wp2_with fail
        go_roundw
        case rel => exact ⟨k + 1, m, a2, c2, Hkm.out, by rw [Hnl.out], by rw [up_succ, ← Hnl.out]; exact S2.out, B2.out⟩
        case measure => show (aboveB (upB k l)).length < N; rw [Hnl.out]; exact Hlt.out
  · have hdec : decide (mayN n) = false := decide_eq_false hm
    have hR : rootB l = .empty := by unfold rootB; rw [if_neg (by rw [hlen]; exact hm)]
    have Hmay := Lib.hid (tvalid_any n hn a cap)
    rw [hdec] at Hmay
    rw [hR]
    clear hR hdec hm hM hl hT
    go_enter Tryz.func32, Tryz.ntmps32
    go_wp2_with fail
    refine (Hmay.out w).mono ?_
    rintro e w1 ⟨rfl, rfl⟩
    go_wp2_with fail
    go_ret
    exact ⟨rfl, Below.refl _ _⟩
end Go.Proofs.YtnbaoihamjdjdaaGreatDoor.Sp

/- Package tree: Path. -/
namespace Go.Proofs.YtnbaoihamjdjdaaGreatDoor.Sp
open Go Go.RowKit
set_option maxRecDepth 100000

theorem half_lt_ (I k m : Nat) (h : I < 2 ^ (k + m)) : I / 2 ^ k < 2 ^ m := by
  rw [Nat.div_lt_iff_lt_mul (Nat.pow_pos (by omega)), ← Nat.pow_add, Nat.add_comm]
  exact h

set_option maxHeartbeats 4000000 in
theorem tpath_any (l : List ByteArray) (a : Option Addr) (n cap : Nat) (i : Int) (w : World) (hn : n ≤ 9223372036854775807) (hi : -9223372036854775808 ≤ i ∧ i ≤ 9223372036854775807) (hM : ∀ x ∈ l, ∀ y ∈ l, x.size + y.size ≤ 281474976710647) (hl : Strs w a n l) (hT : Tab w) :
    Calls Tryz.prog 24 #[.slice a n cap, .int .i64 i] w (TextsTo (pathB l i) w) := by
  have hlen := hl.1
  by_cases hm : mayN n
  · have hdec : decide (mayN n) = true := decide_eq_true hm
    obtain ⟨h, h7, e⟩ := hm
    have Hmay := Lib.hid (tvalid_any n hn a cap)
    rw [hdec] at Hmay
    have HU := Lib.hid (ups_small l hM)
    have HL := Lib.hid hl
    have HT := Lib.hid hT
    have HE := Lib.hid (show l.length = 2 ^ h from by rw [hlen, e])
    have HEn := Lib.hid e
    by_cases hin : 0 ≤ i ∧ i < (n : Int)
    · obtain ⟨I, rfl⟩ : ∃ I : Nat, i = (I : Int) := ⟨i.toNat, by omega⟩
      have hIn : I < n := by omega
      have hIi : (I : Int) < (n : Int) := by omega
      have hI0 : ¬ (I : Int) < 0 := by omega
      have hnI : ¬ n ≤ I := by omega
      have hnIi : ¬ (n : Int) ≤ (I : Int) := by omega
      obtain ⟨R, hR⟩ : ∃ R, pathB l (I : Int) = R := ⟨_, rfl⟩
      have HR := Lib.hid (show R = pathUp h l I from by rw [← hR]; exact path_pow l h I h7 (by rw [hlen, e]) (by omega))
      have HI := Lib.hid (show I < 2 ^ h from by rw [← e]; exact hIn)
      have hI64 : I ≤ 128 := by have : 2 ^ h ≤ 2 ^ 7 := Nat.pow_le_pow_right (by omega) h7; omega
      rw [hR]
      clear hl hT hM e hdec hR hin hIn hi
      go_enter Tryz.func24, Tryz.ntmps24
      go_wp2_with fail
      refine (Hmay.out w).mono ?_
      rintro e w1 ⟨rfl, rfl⟩
      go_wp2_with fail
      clear hI0 hIi hnI hnIi
      go_loopw [1, 5, 6] (fun iv ov lv wr => ∃ (k m : Nat) (a' : Option Addr) (c' : Nat), k + m = h ∧ lv = .slice a' (2 ^ m) c' ∧ iv = .int .i64 ((I / 2 ^ k : Nat) : Int) ∧ OwnT wr w.heap.size ov (pathUp k l I) ∧ Apart ov a' ∧ Strs wr a' (2 ^ m) (upB k l) ∧ Below w.heap.size w wr) (fun _ _ lv _ => sliceLen lv)
      case atStart => exact ⟨0, h, a, cap, by omega, by rw [← HEn.out], by rw [Nat.pow_zero, Nat.div_one], World.ownsRow_nil _ _ _ _, (fun g p hg _ => by cases hg), by rw [← HEn.out]; exact HL.out, Below.refl _ _⟩
      case round =>
        obtain ⟨k, m, a', c', hkm, rfl, rfl, hown, hap, hs, hbel⟩ := hrel
        have HAp := Lib.hid hap
        have HO := Lib.hid hown
        have HS := Lib.hid hs
        have HTr := Lib.hid (HT.out.below hbel HT.out.lt)
        have HB := Lib.hid hbel
        clear hown hap hs hbel
        cases m with
        | zero =>
          obtain rfl : k = h := by omega
          obtain ⟨a2, c2, hv, hS2, hfr⟩ := HO.out.strs_
          rw [← HR.out] at hv hS2 hfr
          subst hv
          have HSt := Lib.hid hS2
          have HFr := Lib.hid hfr
          clear hS2 hfr HO HAp
          go_wp2_with fail
          go_ret
          exact ⟨a2, c2, rfl, HSt.out, HB.out, fun p hp => (HFr.out.1 p hp).1, HFr.out.2⟩
        | succ m =>
          obtain ⟨N, hN⟩ : ∃ N, 2 ^ (m + 1) = N := ⟨_, rfl⟩
          obtain ⟨J, hJ⟩ : ∃ J, I / 2 ^ k = J := ⟨_, rfl⟩
          have hJN : J < N := by rw [← hJ, ← hN]; exact half_lt_ I k (m + 1) (by rw [hkm]; exact HI.out)
          rw [hN] at HS ⊢
          have hN128 : N ≤ 128 := by rw [← hN]; exact Nat.pow_le_pow_right (by omega : 0 < 2) (by omega : m + 1 ≤ 7)
          have hN2 : N = 2 * 2 ^ m := by have h9 : 2 ^ (m + 1) = 2 * 2 ^ m := (by rw [Nat.pow_succ, Nat.mul_comm]); omega
          have hpos : 0 < 2 ^ m := Nat.pow_pos (by omega)
          have hNi : 1 < (N : Int) := by omega
          have hul := HS.out.1
          have HA2 := Lib.hid (fun w h1 h2 => aboveS_any (upB k l) a' N c' hN128 (HU.out k) w h1 h2)
          have Hnl := Lib.hid (show (aboveB (upB k l)).length = 2 ^ m by have h9 := above_len (upB k l); omega)
          have Hlt := Lib.hid (show 2 ^ m < N from by omega)
          have Hkm := Lib.hid (show k + 1 + m = h from by omega)
          have HJ2 := Lib.hid (show I / 2 ^ (k + 1) = J / 2 from by rw [← hJ, Nat.pow_succ, Nat.div_div_eq_div_mul])
          have hstep := path_succ k l I
          rw [hJ] at hstep ⊢
          have Hsib := Lib.hid (tsib_any J (by omega))
          obtain ⟨q, hq⟩ : ∃ q, sib J = q := ⟨_, rfl⟩
          rw [hq] at Hsib
          have hqN : q < N := by rw [← hq]; unfold sib; split <;> omega
          obtain ⟨S, hS⟩ : ∃ S, (upB k l).getD q .empty = S := ⟨_, rfl⟩
          rw [hq, hS] at hstep
          have hSs : S.size ≤ 140737488355328 := by
            have h9 := HU.out k S (by rw [← hS]; exact getD_mem_ _ q (by omega)) S (by rw [← hS]; exact getD_mem_ _ q (by omega))
            omega
          have HCl := Lib.hid (fun w => clone_any S w hSs)
          obtain ⟨b, off, rfl, hc⟩ := HS.out.2 (by omega)
          have c1 := hc q hqN
          rw [hS] at c1
          have hplen := path_len k l I
          obtain ⟨Xs, eXs⟩ : ∃ Xs : List Value, (pathUp k l I).map Value.string = Xs := ⟨_, rfl⟩
          have HOk := Lib.hid (show wr.ownsRow w.heap.size 9 1 u5 k Xs from by have := HO.out; unfold OwnT at this; rw [hplen, eXs] at this; exact this)
          have EXs := Lib.hid (And.intro eXs hplen)
          have Hstep := Lib.hid hstep
          obtain ⟨i0, hi0, hz0, hz1, hz2⟩ := info_parts infoText
          have hk8 : k + 1 ≤ maxLen := by unfold maxLen; omega
          have hkb : (k + 1) * 16 ≤ 140737488355328 := by omega
          obtain ⟨J2, hJ2⟩ : ∃ J2, J / 2 = J2 := ⟨_, rfl⟩
          rw [hJ2] at HJ2
          have hdiv : (J : Int).tdiv 2 = (J2 : Int) := by rw [Int.tdiv_eq_ediv_of_nonneg (by omega)]; omega
          have hdiv' : (J : Int) / 2 = (J2 : Int) := by omega
          have hdw : IntKind.i64.wrap (J2 : Int) = (J2 : Int) := by rw [IntKind.wrap_i64]; omega
          have hqi : (q : Int) < (N : Int) := by omega
          have hq0 : (0 : Int) ≤ (q : Int) := by omega
          clear hN hJ hul hstep hS hc hplen eXs hJ2 hkm hpos hN2 hq hSs
          go_wp2_with fail
          refine (Hsib.out _).mono ?_
          rintro e w1 ⟨rfl, rfl⟩
          go_wp2_with fail
          refine (HCl.out _).mono ?_
          rintro e w2 ⟨rfl, h2⟩
          have B2 := Lib.hid (HB.out.trans (h2.mono HB.out.size))
          have O2 := Lib.hid (own_below HOk.out h2)
          have S2 := Lib.hid (HS.out.below h2)
          have hg2 := h2.size
          have b2 := B2.out.size
          clear h2 c1
          go_wp2_with (at_builtin; refine wpList_append_lies _ rfl (.tmp 26) (.tmp 33) 22 rfl w.heap.size 9 i0 (.string .empty) 1 16 Tryz.underlying22 hi0 hz0 hz1 hz2 rfl (by decide) u5 k Xs rfl (O2.out.alloc _) ⟨w2.heap.size, 0, none⟩ 1 1 [.string S] rfl rfl ?c1 ?c2 (by omega) hk8 hkb ?c5 (w2.heap.size + 1) (by simp) ?_)
          case c1 => intro j u hj; exact new_cell _ _ _ hj
          case c2 => intro u hu; simp at hu; subst hu; rfl
          case c5 => simp; omega
          intro g3 cap3 w3 hown3 hgrow hat hgl
          have HO3 := Lib.hid (show OwnT w3 w.heap.size (.slice (some ⟨g3, 0, none⟩) (k + 1) cap3) (pathUp (k + 1) l I) from by
            unfold OwnT
            rw [Hstep.out, List.map_append, List.length_append, EXs.out.1, EXs.out.2]
            exact hown3)
          have HB3 := Lib.hid (show Below w.heap.size w w3 from by
            refine (B2.out.alloc b2 _).grown hgrow (by simp; omega) ?_
            intro k' hk'
            exact (O2.out.lt k' hk').1)
          have HT3 := Lib.hid (HT.out.below HB3.out HT.out.lt)
          have hbz := HS.out.lt_ (by omega) _ rfl
          have HS3 := Lib.hid (show Strs w3 (some ⟨b, off, none⟩) N (upB k l) from by
            refine Strs.grown_ (S2.out.below ((Below.refl _ _).alloc (Nat.le_refl _) _)) hgrow ?_
            intro p hp
            injection hp with hp
            subst hp
            intro h0
            exact HAp.out b ⟨b, off, none⟩ h0.symm rfl rfl)
          have Hgl := Lib.hid hgl
          clear hown3 hgrow hat hgl hk8 hkb hqi hq0
          go_wp2_with fail
          refine (HA2.out w3 HS3.out HT3.out).mono ?_
          rintro e w4 ⟨a4, c4, rfl, hs4, h4, hfr4⟩
          have HB4 := Lib.hid (HB3.out.trans (h4.mono HB3.out.size))
          have HS4 := Lib.hid hs4
          have HO4 := Lib.hid (show OwnT w4 w.heap.size (.slice (some ⟨g3, 0, none⟩) (k + 1) cap3) (pathUp (k + 1) l I) from own_below HO3.out h4)
          have HAp4 := Lib.hid (show Apart (.slice (some ⟨g3, 0, none⟩) (k + 1) cap3) a4 from fun g p hg hp => by
            have h1 := hfr4.1 p hp
            injection hg with hg
            subst hg
            have h2 := Hgl.out
            simp only
            omega)
          clear hs4 h4 hfr4
          go_wp2_with fail
          go_roundw
          case rel => exact ⟨k + 1, m, a4, c4, Hkm.out, by rw [Hnl.out], by rw [HJ2.out], HO4.out, HAp4.out, by rw [up_succ, ← Hnl.out]; exact HS4.out, HB4.out⟩
          case measure => show (aboveB (upB k l)).length < N; rw [Hnl.out]; exact Hlt.out
    · have hR : pathB l i = [] := by unfold pathB; rw [if_neg (by rw [hlen]; omega)]
      rw [hR]
      have HEnd := Lib.hid (fun (w' : World) (h : Below w.heap.size w w') => (⟨none, 0, rfl, ⟨rfl, fun hp => absurd hp (by simp)⟩, h, (fun p hp => by cases hp), Nat.le_refl _⟩ : TextsTo [] w (.returned (.slice none 0 0)) w'))
      clear hl hT hM e hdec hR HU HE
      rcases (show i < 0 ∨ (0 ≤ i ∧ (n : Int) ≤ i) by omega) with h0 | ⟨h0, h1⟩
      · clear hin
        go_enter Tryz.func24, Tryz.ntmps24
        go_wp2_with fail
        refine (Hmay.out w).mono ?_
        rintro e w1 ⟨rfl, rfl⟩
        go_wp2_with fail
        go_ret
        exact HEnd.out _ (Below.refl _ _)
      · have h0b : ¬ i < 0 := by omega
        clear hin
        go_enter Tryz.func24, Tryz.ntmps24
        go_wp2_with fail
        refine (Hmay.out w).mono ?_
        rintro e w1 ⟨rfl, rfl⟩
        go_wp2_with fail
        go_ret
        exact HEnd.out _ (Below.refl _ _)
  · have hdec : decide (mayN n) = false := decide_eq_false hm
    have hR : pathB l i = [] := by unfold pathB; rw [if_neg (by rw [hlen]; exact fun h => hm h.1)]
    have Hmay := Lib.hid (tvalid_any n hn a cap)
    rw [hdec] at Hmay
    rw [hR]
    have HEnd := Lib.hid (fun (w' : World) (h : Below w.heap.size w w') => (⟨none, 0, rfl, ⟨rfl, fun hp => absurd hp (by simp)⟩, h, (fun p hp => by cases hp), Nat.le_refl _⟩ : TextsTo [] w (.returned (.slice none 0 0)) w'))
    clear hR hdec hm hM
    go_enter Tryz.func24, Tryz.ntmps24
    go_wp2_with fail
    refine (Hmay.out w).mono ?_
    rintro e w1 ⟨rfl, rfl⟩
    go_wp2_with fail
    go_ret
    exact HEnd.out _ (Below.refl _ _)
end Go.Proofs.YtnbaoihamjdjdaaGreatDoor.Sp
