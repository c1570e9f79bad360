/- Package sha: the input of a list of parts, and its sum. -/
import Derived.Test.YtncimfiiknbcfaaDoorShaSum
import Derived.Lib.AppendStr
namespace Go.Proofs.YtncimfiiknbcfaaDoor.Sp
open Go Go.RowKit

/-- A slice value over n texts. -/
def Strs (w : World) (a : Option Addr) (n : Nat) (ss : List ByteArray) : Prop :=
  ss.length = n ∧ (0 < n → ∃ b off, a = some ⟨b, off, none⟩ ∧ ∀ j, j < n → w.cell? ⟨b, off + j, none⟩ = some (.string (ss.getD j ByteArray.empty)))
theorem Strs.below {w w' : World} {a : Option Addr} {n : Nat} {ss : List ByteArray} (h : Strs w a n ss) (hb : Below w.heap.size w w') : Strs w' a n ss :=
  ⟨h.1, fun hn => by
    obtain ⟨b, off, e, hc⟩ := h.2 hn
    exact ⟨b, off, e, fun j hj => (hb.cell (p := ⟨b, off + j, none⟩) (block_lt_of_cell (hc j hj))).trans (hc j hj)⟩⟩

/-- The bytes of the first k parts, each behind its length. -/
def partB (s : ByteArray) : List UInt8 := bytes4 (BitVec.ofNat 32 s.size) ++ s.data.toList
def inp (d : UInt8) (ss : List ByteArray) (k : Nat) : List UInt8 := d :: (ss.take k).flatMap partB
def inB (d : UInt8) (ss : List ByteArray) : List UInt8 := d :: ss.flatMap partB
def len2 (ss : List ByteArray) (k : Nat) : Nat := 1 + ((ss.take k).map fun s => 4 + s.size).sum
theorem take_getB (ss : List ByteArray) (k : Nat) (hk : k < ss.length) : ss.take (k + 1) = ss.take k ++ [ss.getD k ByteArray.empty] := by
  rw [List.take_succ_eq_append_getElem hk, List.getD_eq_getElem?_getD, List.getElem?_eq_getElem hk]; rfl
theorem inp_succ (d : UInt8) (ss : List ByteArray) (k : Nat) (hk : k < ss.length) : inp d ss (k + 1) = inp d ss k ++ bytes4 (BitVec.ofNat 32 (ss.getD k ByteArray.empty).size) ++ (ss.getD k ByteArray.empty).data.toList := by
  unfold inp; rw [take_getB ss k hk]; simp [partB]
theorem inp_all (d : UInt8) (ss : List ByteArray) : inp d ss ss.length = inB d ss := by unfold inp inB; rw [List.take_length]
theorem len2_succ (ss : List ByteArray) (k : Nat) (hk : k < ss.length) : len2 ss (k + 1) = len2 ss k + (4 + (ss.getD k ByteArray.empty).size) := by
  unfold len2; rw [take_getB ss k hk]; simp; omega
theorem inp_length (d : UInt8) (ss : List ByteArray) (k : Nat) : (inp d ss k).length = len2 ss k := by
  unfold inp len2
  generalize ss.take k = l
  induction l with
  | nil => rfl
  | cons x l ih => simp [List.flatMap_cons, partB, bytes4_length] at ih ⊢; omega
theorem len2_mono (ss : List ByteArray) (k m : Nat) (h : k ≤ m) : len2 ss k ≤ len2 ss m := by
  induction m with
  | zero => have : k = 0 := by omega
            subst this; exact Nat.le_refl _
  | succ m ih =>
    by_cases hk : k = m + 1
    · subst hk; exact Nat.le_refl _
    · have := ih (by omega)
      by_cases hm : m < ss.length
      · rw [len2_succ ss m hm]; omega
      · unfold len2 at *
        rw [List.take_of_length_le (by omega : ss.length ≤ m + 1)]
        rw [List.take_of_length_le (by omega : ss.length ≤ m)] at this
        exact this
theorem strCells_eq (s : ByteArray) : Lib.strCells s = byteVs s.data.toList := by
  rfl

theorem run_make_in (c : Nat) (hc : 1 ≤ c) (hc2 : c ≤ 140737488355328) (u : World) : (Instr.makeSlice 51 (.int .i64 1) (.int .i64 (c : Int))).run Tryd.prog u =
    .ok (.slice (some ⟨u.heap.size, 0, none⟩) 1 c) (u.alloc (.cells (madeCells #[.int .u8 0] c) 5)) := by
  obtain ⟨i0, hi, hz0, hz1, hz2⟩ := info_parts infoByte
  have h := run_make (P := Tryd.prog) u 51 5 i0 (.int .u8 0) Tryd.underlying51 hi hz0 .i64 .i64 1 (c : Int) (by omega) (by omega) (by rw [hz2]; omega) (by omega)
  have e2 : ((c : Int)).toNat = c := by omega
  rw [e2] at h
  simpa [hz1, Value.cells] using h
theorem own_in (w : World) (c : Nat) (hc : 1 ≤ c) (hc2 : c ≤ 140737488355328) (d : UInt8) (base : Nat) (hb : base ≤ w.heap.size) :
    Own (w.alloc (.cells ((madeCells #[.int .u8 0] c).setIfInBounds 0 (.int .u8 (d.toNat : Int))) 5)) base (.slice (some ⟨w.heap.size, 0, none⟩) 1 c) [d] := by
  refine ⟨by simp [byteVs], .inr ⟨w.heap.size, c, _, rfl, hb, heap_alloc_new w _, hc, by unfold maxLen; omega, by simp [size_madeCells], ?_⟩⟩
  rw [Array.toList_setIfInBounds, madeCells_toList]
  obtain ⟨c', rfl⟩ : ∃ c', c = c' + 1 := ⟨c - 1, by omega⟩
  simp [byteVs, byteV, List.replicate_succ]

set_option maxHeartbeats 2000000 in
theorem input_any (d : UInt8) (a : Option Addr) (n c : Nat) (ss : List ByteArray) (w : World) (h : Strs w a n ss) (hn : n ≤ 9223372036854775807) (hlen : len2 ss n ≤ 140737488351300) :
    Calls Tryd.prog 36 #[.int .u8 (d.toNat : Int), .slice a n c] w fun e w' => e = .returned (.string ⟨(inB d ss).toArray⟩) ∧ Below w.heap.size w w' := by
  have HH := Lib.hid h
  have HN := Lib.hid h.1
  clear h
  go_enter Tryd.func36, Tryd.ntmps36
  go_wp2_with fail
  go_loop [5, 13] (fun v i => ∃ k : Nat, k ≤ n ∧ v = .int .i64 ((len2 ss k : Nat) : Int) ∧ i = .int .i64 (k : Int)) (fun _ i => n - (intOf i).toNat)
  case atStart => exact ⟨0, Nat.zero_le _, rfl, rfl⟩
  case round =>
    obtain ⟨k, hk, rfl, rfl⟩ := hrel
    have hmono := len2_mono ss k n hk
    by_cases hlt : k < n
    · obtain ⟨b, off, rfl, hc⟩ := HH.out.2 (by omega)
      obtain ⟨S, eS⟩ : ∃ S, S = ss.getD k ByteArray.empty := ⟨_, rfl⟩
      have hcell := hc k hlt
      rw [← eS] at hcell
      have hs2 : len2 ss (k + 1) = len2 ss k + (4 + S.size) := by rw [eS]; exact len2_succ ss k (by rw [HN.out]; exact hlt)
      have hm2 := len2_mono ss (k + 1) n (by omega)
      have hss : S.size ≤ 140737488351300 := by omega
      have hsum : len2 ss k + (4 + S.size) ≤ 140737488351300 := by omega
      have HS2 := Lib.hid hs2
      clear hs2 hm2 hc eS
      go_wp2_with fail
      go_round
      case rel => exact ⟨k + 1, by omega, by rw [HS2.out]; go_num, by go_num⟩
      case measure => simp [intOf]; omega
    · have hkn : k = n := by omega
      rw [hkn] at hmono ⊢
      clear hkn hmono hlt hk
      obtain ⟨L, eL⟩ : ∃ L : Nat, L = len2 ss n := ⟨_, rfl⟩
      have hL0 := len2_mono ss 0 n (Nat.zero_le _)
      have hL1 : 1 ≤ L := by rw [eL]; exact Nat.le_trans (by unfold len2; exact Nat.le_add_right 1 _) hL0
      rw [← eL] at hlen ⊢
      have EL := Lib.hid eL
      clear eL hL0
      have hm0 := madeCells_head L (by omega)
      have hmk := run_make_in L hL1 (by omega)
      go_wp2_with fail
      go_loopw [8, 30] (fun v i wr => ∃ k : Nat, k ≤ n ∧ Own wr w.heap.size v (inp d ss k) ∧ i = .int .i64 (k : Int) ∧ Below w.heap.size w wr) (fun _ i _ => n - (intOf i).toNat)
      case atStart => exact ⟨0, Nat.zero_le _, own_in w L hL1 (by omega) d w.heap.size (Nat.le_refl _), rfl, (Below.refl _ _).alloc (Nat.le_refl _) _⟩
      case round =>
        clear hmk hm0
        obtain ⟨k, hk, hown, rfl, hbel⟩ := hrel
        have HO := Lib.hid hown
        have HB := Lib.hid hbel
        have hsz := hbel.size
        clear hown hbel
        by_cases hlt : k < n
        · obtain ⟨b, off, rfl, hc⟩ := HH.out.2 (by omega)
          obtain ⟨S, eS⟩ : ∃ S, S = ss.getD k ByteArray.empty := ⟨_, rfl⟩
          have hcell0 := hc k hlt
          have hcell : wr.cell? ⟨b, off + k, none⟩ = some (.string S) := by
            rw [eS]; exact (HB.out.cell (p := ⟨b, off + k, none⟩) (block_lt_of_cell hcell0)).trans hcell0
          have hs2 : len2 ss (k + 1) = len2 ss k + (4 + S.size) := by rw [eS]; exact len2_succ ss k (by rw [HN.out]; exact hlt)
          have hm2 := len2_mono ss (k + 1) n (by omega)
          have hLn := EL.out
          have hil := inp_length d ss k
          have hss : S.size ≤ 140737488351300 := by omega
          have hi1 : (inp d ss k).length + 4 + S.size ≤ 140737488351300 := by omega
          have hsucc := Lib.hid (show inp d ss (k + 1) = inp d ss k ++ bytes4 (BitVec.ofNat 32 S.size) ++ S.data.toList from by rw [eS]; exact inp_succ d ss k (by rw [HN.out]; exact hlt))
          have hu : (S.size : Int) % 4294967296 = U (BitVec.ofNat 32 S.size) := by rw [← IntKind.wrap_u32', wrap_u32_nat]
          clear hs2 hm2 hc eS hcell0 hLn hil
          go_wp2_with fail
          refine (appendWord_any (BitVec.ofNat 32 S.size) _ (inp d ss k) w.heap.size _ HO.out (by omega) hsz).mono ?_
          rintro e w1 ⟨v1, rfl, hown1, hg1⟩
          have HO1 := Lib.hid hown1
          have HB1 := Lib.hid (HB.out.grown hg1 hsz (fun k' hk' => (HO.out.lt k' hk').1))
          have hsz1 := HB1.out.size
          clear hown1 hg1
          obtain ⟨i0, hi0, hz0, hz1, hz2⟩ := info_parts infoByte
          go_wp2_with (at_builtin; refine Lib.wpList_append_own_string _ rfl (.tmp 39) (.tmp 40) 51 9 rfl w.heap.size 5 i0 Tryd.underlying51 Tryd.underlying9 hi0 hz0 hz1 hz2 v1 (inp d ss k ++ bytes4 (BitVec.ofNat 32 S.size)).length (byteVs (inp d ss k ++ bytes4 (BitVec.ofNat 32 S.size))) rfl HO1.out S rfl ?c1 ?c2 hsz1 ?_)
          case c1 => rw [List.length_append, bytes4_length]; unfold maxLen; omega
          case c2 => rw [List.length_append, bytes4_length]; omega
          intro v2 w2 hown2 hg2 _
          have HO2 := Lib.hid (show Own w2 w.heap.size v2 (inp d ss (k + 1)) from by
            unfold Own
            rw [hsucc.out, byteVs_append, List.length_append, List.length_append, size_list]
            exact hown2)
          have HB2 := Lib.hid (HB1.out.grown hg2 hsz1 (fun k' hk' => (HO1.out.lt k' hk').1))
          clear hown2 hg2
          go_wp2_with fail
          go_roundw
          case rel => exact ⟨k + 1, by omega, HO2.out, by go_num, HB2.out⟩
          case measure => simp [intOf]; omega
        · have hconv := run_text_of_own HO.out
          have hki : ¬ (k : Int) < (n : Int) := by omega
          have hkn : k = n := by omega
          have HKN := Lib.hid hkn
          clear hkn hlt hk
          go_wp2_with fail
          go_ret
          exact ⟨ret_string (by rw [HKN.out, ← HN.out]; exact inp_all d ss), HB.out⟩

end Go.Proofs.YtncimfiiknbcfaaDoor.Sp
