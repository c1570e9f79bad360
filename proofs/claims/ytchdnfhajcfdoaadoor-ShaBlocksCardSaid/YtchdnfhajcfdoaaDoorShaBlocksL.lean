/- The statement on states and blocks of the right length: its walk. -/
import Derived.Test.YtchdnfhajcfdoaaDoorShaBlocksW
namespace Go.Proofs.YtchdnfhajcfdoaaDoor.Sp
open Go Go.RowKit

theorem fillB_size (s : ByteArray) (n : Nat) : (fillB s n).size = n := by
  unfold fillB; show (fill s n).toArray.size = n; rw [List.size_toArray]; exact fill_length s n
theorem textB_encode (T : St) (R : ByteArray) (h : R = ⟨(encode T).toArray⟩) : R = textB T.ws := h

set_option maxHeartbeats 2000000 in
theorem blocks_law (s b : ByteArray) (hs : s.size ≤ 9223372036854775807) (hb : b.size ≤ 9223372036854775807) (w : World) (hT : Tab w) (hK : KTab w) :
    Calls Tryd.prog 4 #[.string s, .string b] w fun e w' => e = .returned (.bool true) ∧ Below w.heap.size w w' := by
  have HT := Lib.hid hT
  have HK := Lib.hid hK
  clear hT hK
  have hmk1 := run_make_n 32 (by omega)
  have hmk2 := run_make_n 64 (by omega)
  simp only [Int.cast_ofNat_Int] at hmk1 hmk2
  go_enter Tryd.func4, Tryd.ntmps4
  go_wp2_with fail
  refine (awake_any _ HT.out).mono ?_
  rintro e w1 ⟨rfl, hb1⟩
  have B1 := Lib.hid hb1
  have hz1 := hb1.size
  clear hb1
  have A1 := Lib.hid (show Blk ((w1.alloc (.cells (madeCells #[.int .u8 0] 32) 5)).alloc (.cells (madeCells #[.int .u8 0] 64) 5)) w1.heap.size 5 (madeCells #[.int .u8 0] 32) from (Blk.new w1 _ _).alloc _)
  have A2 := Lib.hid (show Blk ((w1.alloc (.cells (madeCells #[.int .u8 0] 32) 5)).alloc (.cells (madeCells #[.int .u8 0] 64) 5)) (w1.heap.size + 1) 5 (madeCells #[.int .u8 0] 64) from heap_alloc2_new _ _ _)
  have A3 := Lib.hid (show Below w.heap.size w ((w1.alloc (.cells (madeCells #[.int .u8 0] 32) 5)).alloc (.cells (madeCells #[.int .u8 0] 64) 5)) from (B1.out.alloc hz1 _).alloc (by simp; omega) _)
  go_upto_region 4 with fail
  generalize ((w1.alloc (.cells (madeCells #[.int .u8 0] 32) 5)).alloc (.cells (madeCells #[.int .u8 0] 64) 5)) = w2 at *
  have hr1 := run_copy_cut (P := Tryd.prog) w2 30 9 3 5 w1.heap.size 32 32 s _ 5 Tryd.underlying30 byteOne A1.out (size_madeCells _ _)
  rw [fill_cells] at hr1
  go_upto_region 5 with (at_builtin; refine Lib.wpList_copy_run _ rfl _ _ 30 9 rfl _ _ rfl rfl hr1 ?_)
  have C1 := Lib.hid (A1.out.row (byteVs (fill s 32)).toArray)
  have C2 := Lib.hid (show Blk (w2.setRow w1.heap.size (byteVs (fill s 32)).toArray) (w1.heap.size + 1) 5 (madeCells #[.int .u8 0] 64) from Blk.far_row A2.out (by omega) _)
  have C3 := Lib.hid (below_setRow A3.out hz1 (byteVs (fill s 32)).toArray)
  clear hr1 A1 A2 A3
  generalize w2.setRow w1.heap.size (byteVs (fill s 32)).toArray = w3 at *
  have hr2 := run_copy_cut (P := Tryd.prog) w3 30 9 3 5 (w1.heap.size + 1) 64 64 b _ 5 Tryd.underlying30 byteOne C2.out (size_madeCells _ _)
  rw [fill_cells] at hr2
  go_upto_region 6 with (at_builtin; refine Lib.wpList_copy_run _ rfl _ _ 30 9 rfl _ _ rfl rfl hr2 ?_)
  have D1 := Lib.hid (show Blk (w3.setRow (w1.heap.size + 1) (byteVs (fill b 64)).toArray) w1.heap.size 5 (byteVs (fill s 32)).toArray from Blk.far_row C1.out (by omega) _)
  have D2 := Lib.hid (C2.out.row (byteVs (fill b 64)).toArray)
  have D3 := Lib.hid (below_setRow C3.out (by omega : w.heap.size ≤ w1.heap.size + 1) (byteVs (fill b 64)).toArray)
  clear hr2 C1 C2 C3
  generalize w3.setRow (w1.heap.size + 1) (byteVs (fill b 64)).toArray = w4 at *
  have hca := run_text_of_blk (cap := 32) D1.out (fill_length s 32)
  have hcb := run_text_of_blk (cap := 64) D2.out (fill_length b 64)
  obtain ⟨X, eX⟩ : ∃ X : ByteArray, X = ⟨(fill s 32).toArray⟩ := ⟨_, rfl⟩
  obtain ⟨Y, eY⟩ : ∃ Y : ByteArray, Y = ⟨(fill b 64).toArray⟩ := ⟨_, rfl⟩
  have HX32 := Lib.hid (show X.size = 32 from by rw [eX]; exact fillB_size s 32)
  have HY64 := Lib.hid (show Y.size = 64 from by rw [eY]; exact fillB_size b 64)
  obtain ⟨R, eR⟩ : ∃ R : ByteArray, R = ⟨(encode (compress (decode X.data.toList) Y.data.toList)).toArray⟩ := ⟨_, rfl⟩
  have HR := Lib.hid eR
  have hRs : R.size = 32 := by rw [eR]; show (encode _).toArray.size = 32; rw [List.size_toArray]; exact encode_length _
  have g1 : ((R.size : Int) == 32) = true := by rw [hRs]; rfl
  have HT4 := Lib.hid (HT.out.below D3.out HT.out.lt)
  have HK4 := Lib.hid (HK.out.below D3.out HK.out.lt)
  have EX := Lib.hid eX
  have EY := Lib.hid eY
  rw [← eX] at hca
  rw [← eY] at hcb
  clear eX eY eR hRs
  go_wp2_with fail
  refine (block_ok X Y HX32.out HY64.out _ HT4.out R HR.out).mono ?_
  rintro e w5 ⟨rfl, hb5⟩
  have D15 := Lib.hid (D1.out.below hb5 D1.out.lt)
  have D25 := Lib.hid (D2.out.below hb5 D2.out.lt)
  have D35 := Lib.hid (D3.out.trans (hb5.mono D3.out.size))
  have HK5 := Lib.hid (HK.out.below D35.out HK.out.lt)
  have hda := run_text_of_blk (cap := 32) D15.out (fill_length s 32)
  have hdb := run_text_of_blk (cap := 64) D25.out (fill_length b 64)
  rw [← EX.out] at hda
  rw [← EY.out] at hdb
  clear hb5 hca hcb
  go_wp2_with fail
  refine (rblock_yes X Y HX32.out HY64.out _ HK5.out R (textB_encode _ R HR.out)).mono ?_
  rintro e w6 ⟨rfl, hb6⟩
  have D6 := Lib.hid (D35.out.trans (hb6.mono D35.out.size))
  clear hb6 hda hdb
  go_wp2_with fail
  go_ret
  exact ⟨rfl, D6.out⟩

end Go.Proofs.YtchdnfhajcfdoaaDoor.Sp
