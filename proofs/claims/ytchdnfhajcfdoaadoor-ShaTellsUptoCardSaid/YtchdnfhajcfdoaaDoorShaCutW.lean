/- Package voussoirlaw01: texts cut to 100000 bytes; package sha: Tag. -/
import Derived.Test.YtchdnfhajcfdoaaDoorShaInputW
import Derived.Test.YtchdnfhajcfdoaaDoorShaGoesW
import Derived.Deep.RegionHeld3
import Derived.Deep.AppendLies
import Derived.WalkLawsBesides
namespace Go.Proofs.YtchdnfhajcfdoaaDoor.Sp
open Go Go.RowKit

def cutB (s : ByteArray) : ByteArray := s.extract 0 (min s.size 100000)
theorem infoText : (Tryd.prog.info? 9).map (fun i => (i.zero, i.size, i.bytes)) = some (some (.string .empty), 1, 16) := by kernel_rfl

/-- A slice of texts of the call's own. -/
def OwnS (w : World) (base : Nat) (v : Value) (ss : List ByteArray) : Prop := w.ownsRow base 9 1 v ss.length (ss.map Value.string)

def CutTo (ss : List ByteArray) (w : World) (e : Ending) (w' : World) : Prop :=
  ∃ (a : Option Addr) (c : Nat), e = .returned (.slice a ss.length c) ∧ Strs w' a ss.length (ss.map cutB) ∧ Below w.heap.size w w'

set_option maxHeartbeats 2000000 in
theorem cut_any (a : Option Addr) (n c : Nat) (ss : List ByteArray) (w : World) (h : Strs w a n ss) (hn : n ≤ 8796093022200) (hsz : ∀ s ∈ ss, s.size ≤ 9223372036854775807) :
    Calls Tryd.prog 25 #[.slice a n c] w (CutTo ss w) := by
  obtain ⟨i0, hi0, hz0, hz1, hz2⟩ := info_parts infoText
  have HH := Lib.hid h
  have HN := Lib.hid h.1
  have HSZ := Lib.hid hsz
  clear h hsz
  go_enter Tryd.func25, Tryd.ntmps25
  go_wp2_with fail
  go_loopw [3, 4] (fun v i wr => ∃ k : Nat, k ≤ n ∧ OwnS wr w.heap.size v ((ss.take k).map cutB) ∧ i = .int .i64 (k : Int) ∧ Below w.heap.size w wr) (fun _ i _ => n - (intOf i).toNat)
  case atStart => exact ⟨0, Nat.zero_le _, World.ownsRow_nil _ _ _ _, rfl, Below.refl _ _⟩
  case round =>
    obtain ⟨k, hk, hown, rfl, hbel⟩ := hrel
    have HO := Lib.hid hown
    have HB := Lib.hid hbel
    have hsz := hbel.size
    clear hown hbel
    by_cases hlt : k < n
    · obtain ⟨b, off, rfl, hc⟩ := HH.out.2 (by omega)
      obtain ⟨S, eS⟩ : ∃ S, S = ss.getD k ByteArray.empty := ⟨_, rfl⟩
      have hcell0 := hc k hlt
      have hbw : b < w.heap.size := block_lt_of_cell hcell0
      have hcell : wr.cell? ⟨b, off + k, none⟩ = some (.string S) := by
        rw [eS]; exact (HB.out.cell (p := ⟨b, off + k, none⟩) hbw).trans hcell0
      have hki : (k : Int) < (n : Int) := by omega
      have hk0 : (0 : Int) ≤ (k : Int) := by omega
      have ES := Lib.hid eS
      clear hc eS hcell0
      obtain ⟨M, hM⟩ : ∃ M : Nat, (if (100000 : Int) < (S.size : Int) then (100000 : Int) else (S.size : Int)) = (M : Int) := ⟨min S.size 100000, by split <;> omega⟩
      have hMx := Lib.hid (show M = min S.size 100000 from by revert hM; split <;> omega)
      have hM1 : (M : Int) ≤ (S.size : Int) := by have := hMx.out; omega
      have hM2 : M ≤ S.size := by omega
      have hM0 : (0 : Int) ≤ (M : Int) := by omega
      have hlk : ((ss.take k).map cutB).length = k := by rw [List.length_map, List.length_take, HN.out]; omega
      have hA : k + 1 ≤ maxLen := by unfold maxLen; omega
      have hB : (k + 1) * 16 ≤ 140737488355328 := by omega
      obtain ⟨Xs, eX⟩ : ∃ Xs : List Value, Xs = ((ss.take k).map cutB).map Value.string := ⟨_, rfl⟩
      have HOk := Lib.hid (show wr.ownsRow w.heap.size 9 1 u3 k Xs from by have := HO.out; unfold OwnS at this; rw [hlk] at this; rw [eX]; exact this)
      have EX := Lib.hid eX
      clear eX
      have ak := Lib.hid (show Value.ownBlock u3 ≠ some b from fun e => by have := (HO.out.lt b e).1; omega)
      have HLK := Lib.hid hlk
      clear hlk
      go_wp2_with fail
      go_region_held3 (fun w' => w'.cell? ⟨b, off + k, none⟩ = some (.string S)) (first
        | go_keep
        | (rw [hgrow.cell_far _ (by simp; omega) (Ne.symm ak.out)]; assumption))
        ((refine step_append_lies _ (by rfl) _ _ _ (by rfl) w.heap.size 9 i0 _ 1 16 Tryd.underlying22 hi0 hz0 hz1 hz2 rfl (by omega) u3 k Xs (by rfl) ((World.ownsRow.alloc HOk.out _).drew) ⟨wr.heap.size, 0, none⟩ 1 1 [.string (S.extract 0 M)] (by rfl) (by rfl) (World.news_of_block (cs := #[.string (S.extract 0 M)]) (t := 9) (fr := (0, 0)) (heap_alloc_new wr _)) (by simp [Value.oneCell']) (by omega) hA hB (by simp; omega) (wr.heap.size + 1) (by simp) ?_; intro gg cap w1 hown1 hgrow hat hgl))
      have HO1 := Lib.hid (show OwnS w1 w.heap.size (.slice (some ⟨gg, 0, none⟩) (k + 1) cap) ((ss.take (k + 1)).map cutB) from by
        unfold OwnS
        rw [take_getD ss k (by rw [HN.out]; exact hlt), List.map_append, List.map_append, List.length_append, ← EX.out, HLK.out]
        have e : cutB (ss.getD k ByteArray.empty) = S.extract 0 M := by rw [← ES.out, hMx.out]; rfl
        simp only [List.map_cons, List.map_nil, e, List.length_cons, List.length_nil]
        exact hown1)
      have HB1 := Lib.hid (show Below w.heap.size w w1 from by
        refine ((HB.out.alloc hsz _).drew).grown hgrow (by simp; omega) ?_
        intro k' hk'
        exact (HO.out.lt k' hk').1)
      clear hown1 hgrow hat hgl
      go_wp2_with fail
      go_roundw
      case rel => exact ⟨k + 1, by omega, HO1.out, by go_num, HB1.out⟩
      case measure => simp [intOf]; omega
    · have hki : ¬ (k : Int) < (n : Int) := by omega
      have hkn : k = n := by omega
      have hall : OwnS wr w.heap.size u3 (ss.map cutB) := by
        have := HO.out
        rw [hkn, ← HN.out, List.take_length] at this
        exact this
      have HALL := Lib.hid hall
      obtain ⟨a3, c3, e3⟩ : ∃ a3 c3, u3 = .slice a3 ss.length c3 := by
        rcases hall.2 with ⟨h1, h2⟩ | ⟨g, cap, cur, h1, _⟩
        · rw [List.length_map] at h2; exact ⟨none, 0, by rw [h1, h2]⟩
        · rw [List.length_map] at h1; exact ⟨_, _, h1⟩
      have HS := Lib.hid (show Strs wr a3 ss.length (ss.map cutB) from by
        refine ⟨List.length_map _, fun hpos => ?_⟩
        rcases hall.2 with ⟨_, h2⟩ | ⟨g, cap, cur, h1, _⟩
        · rw [List.length_map] at h2; omega
        · rw [e3] at h1
          injection h1 with h1
          refine ⟨g, 0, h1, fun j hj => ?_⟩
          have hc := hall.cells (g := g) (by rw [e3, h1]; rfl) j (.string ((ss.map cutB).getD j ByteArray.empty)) (by
            rw [List.getElem?_map, List.getD_eq_getElem?_getD]
            have : j < (ss.map cutB).length := by rw [List.length_map]; exact hj
            rw [List.getElem?_eq_getElem this]; rfl)
          rw [show (⟨g, 0, none⟩ : Addr).add j = ⟨g, 0 + j, none⟩ from Go.WideShapes.add_plain _ _ _] at hc
          exact hc)
      have E3 := Lib.hid e3
      clear hkn hall e3
      go_wp2_with fail
      go_ret
      exact ⟨a3, c3, by rw [← E3.out]; rfl, HS.out, HB.out⟩

/-- Tag is the sum of the input. -/
theorem tag_any (d : UInt8) (a : Option Addr) (n c : Nat) (ss : List ByteArray) (w : World) (h : Strs w a n ss) (hn : n ≤ 9223372036854775807) (hlen : len2 ss n ≤ 1099511627776) (hT : Tab w) :
    Calls Tryd.prog 22 #[.int .u8 (d.toNat : Int), .slice a n c] w fun e w' => e = .returned (.string ⟨(sum (inB d ss)).toArray⟩) ∧ Below w.heap.size w w' := by
  have HH := Lib.hid h
  have HT := Lib.hid hT
  obtain ⟨I, eI⟩ : ∃ I : ByteArray, I = ⟨(inB d ss).toArray⟩ := ⟨_, rfl⟩
  have hIl : I.data.toList = inB d ss := by rw [eI]
  have hIs : I.size ≤ 1099511627776 := by rw [← size_list, hIl, ← inp_all, inp_length, h.1]; exact hlen
  have HI := Lib.hid hIl
  have EI := Lib.hid eI
  clear h hT eI hIl
  go_enter Tryd.func22, Tryd.ntmps22
  go_wp2_with fail
  refine (input_any d a n c ss _ HH.out hn hlen).mono ?_
  rintro e w1 ⟨rfl, hb1⟩
  have B1 := Lib.hid hb1
  have HT1 := Lib.hid (HT.out.below hb1 HT.out.lt)
  clear hb1
  rw [← EI.out]
  go_wp2_with fail
  refine (sum_any I (by omega) _ HT1.out).mono ?_
  rintro e w2 ⟨rfl, hb2⟩
  have B2 := Lib.hid (B1.out.trans (hb2.mono B1.out.size))
  clear hb2
  go_wp2_with fail
  go_ret
  exact ⟨ret_string (by rw [HI.out]), B2.out⟩

end Go.Proofs.YtchdnfhajcfdoaaDoor.Sp
