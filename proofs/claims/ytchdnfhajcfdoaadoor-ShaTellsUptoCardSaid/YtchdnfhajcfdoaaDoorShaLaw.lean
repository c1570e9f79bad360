/- The statements of package sha: their first calls, Block and First. -/
import Derived.Test.YtchdnfhajcfdoaaDoorShaSum
namespace Go.Proofs.YtchdnfhajcfdoaaDoor.Sp
open Go Go.RowKit

theorem sum_abc : sum [97, 98, 99] = [186, 120, 22, 191, 143, 1, 207, 234, 65, 65, 64, 222, 93, 174, 34, 35, 176, 3, 97, 163, 150, 23, 122, 156, 180, 16, 255, 97, 242, 0, 21, 173] := by decide +kernel
theorem pad_three : pad 3 = [128, 0, 0, 0, 0, 0, 0, 0, 0, 0, 0, 0, 0, 0, 0, 0, 0, 0, 0, 0, 0, 0, 0, 0, 0, 0, 0, 0, 0, 0, 0, 0, 0, 0, 0, 0, 0, 0, 0, 0, 0, 0, 0, 0, 0, 0, 0, 0, 0, 0, 0, 0, 0, 0, 0, 0, 0, 0, 0, 0, 24] := by decide +kernel

theorem Sum_abc (w : World) (hT : Tab w) :
    Calls Tryd.prog 12 #[.string ⟨#[97, 98, 99]⟩] w fun e w' => e = .returned (.string ⟨#[186, 120, 22, 191, 143, 1, 207, 234, 65, 65, 64, 222, 93, 174, 34, 35, 176, 3, 97, 163, 150, 23, 122, 156, 180, 16, 255, 97, 242, 0, 21, 173]⟩) ∧ Below w.heap.size w w' :=
  (sum_any ⟨#[97, 98, 99]⟩ (by decide) w hT).mono fun e w' h => ⟨by rw [h.1]; show Ending.returned (.string ⟨(sum [97, 98, 99]).toArray⟩) = _; rw [sum_abc], h.2⟩
theorem Pad_three (w : World) :
    Calls Tryd.prog 14 #[.int .i64 3] w fun e w' => e = .returned (.string ⟨#[128, 0, 0, 0, 0, 0, 0, 0, 0, 0, 0, 0, 0, 0, 0, 0, 0, 0, 0, 0, 0, 0, 0, 0, 0, 0, 0, 0, 0, 0, 0, 0, 0, 0, 0, 0, 0, 0, 0, 0, 0, 0, 0, 0, 0, 0, 0, 0, 0, 0, 0, 0, 0, 0, 0, 0, 0, 0, 0, 0, 24]⟩) ∧ Below w.heap.size w w' :=
  (pad_any 3 (by decide) w).mono fun e w' h => ⟨by rw [h.1, pad_three], h.2⟩

set_option maxHeartbeats 1000000 in
set_option maxRecDepth 100000 in
theorem awake_any (w : World) (hT : Tab w) :
    Calls Tryd.prog 11 #[] w fun e w' => e = .returned (.bool true) ∧ Below w.heap.size w w' := by
  have HT := Lib.hid hT
  clear hT
  go_enter Tryd.func11, Tryd.ntmps11
  go_wp2_with fail
  refine (Sum_abc _ HT.out).mono ?_
  rintro e w1 ⟨rfl, hb1⟩
  have HB := Lib.hid hb1
  clear hb1
  go_wp2_with fail
  refine (Pad_three _).mono ?_
  rintro e w2 ⟨rfl, hb2⟩
  have HC := Lib.hid hb2
  clear hb2
  go_wp2_with fail
  go_ret
  exact ⟨rfl, HB.out.trans (HC.out.mono HB.out.size)⟩

theorem first_any (w : World) :
    Calls Tryd.prog 16 #[] w fun e w' => e = .returned (.string ⟨(encode st0).toArray⟩) ∧ Below w.heap.size w w' := by
  go_enter Tryd.func16, Tryd.ntmps16
  go_wp2_with fail
  refine (initial_any _).mono ?_
  rintro e w1 ⟨rfl, hb1⟩
  have HB := Lib.hid hb1
  clear hb1
  go_wp2_with fail
  refine (encode_any st0 _).mono ?_
  rintro e w2 ⟨rfl, hb2⟩
  have HC := Lib.hid hb2
  clear hb2
  go_wp2_with fail
  go_ret
  exact ⟨rfl, HB.out.trans (HC.out.mono HB.out.size)⟩

theorem block_yes (s b : ByteArray) (hs : s.size = 32) (hb : b.size = 64) (w : World) (hT : Tab w) :
    Calls Tryd.prog 18 #[.string s, .string b] w fun e w' => e = .returned (.string ⟨(encode (compress (decode s.data.toList) b.data.toList)).toArray⟩) ∧ Below w.heap.size w w' := by
  have HT := Lib.hid hT
  have HS := Lib.hid hs
  have HB := Lib.hid hb
  have g1 : ((s.size : Int) != 32) = false := by rw [hs]; rfl
  have g2 : ((b.size : Int) != 64) = false := by rw [hb]; rfl
  clear hT hs hb
  go_enter Tryd.func18, Tryd.ntmps18
  go_wp2_with fail
  refine (decode_any s _ HS.out).mono ?_
  rintro e w1 ⟨rfl, hb1⟩
  have H1 := Lib.hid hb1
  have HT1 := Lib.hid (HT.out.below hb1 HT.out.lt)
  clear hb1
  go_wp2_with fail
  refine (compress_any _ b HB.out _ HT1.out).mono ?_
  rintro e w2 ⟨rfl, hb2⟩
  have H2 := Lib.hid hb2
  clear hb2
  go_wp2_with fail
  refine (encode_any _ _).mono ?_
  rintro e w3 ⟨rfl, hb3⟩
  have H3 := Lib.hid hb3
  clear hb3
  go_wp2_with fail
  go_ret
  have H12 := H1.out.trans (H2.out.mono H1.out.size)
  exact ⟨rfl, H12.trans (H3.out.mono H12.size)⟩

theorem block_no (s b : ByteArray) (h : ¬ (s.size = 32 ∧ b.size = 64)) (w : World) :
    Calls Tryd.prog 18 #[.string s, .string b] w fun e w' => e = .returned (.string ⟨#[]⟩) ∧ Below w.heap.size w w' := by
  by_cases hs : s.size = 32
  · have hb : ¬ b.size = 64 := fun hb => h ⟨hs, hb⟩
    have g1 : ((s.size : Int) != 32) = false := by rw [hs]; rfl
    have g2 : ((b.size : Int) != 64) = true := by rw [bne_iff_ne]; omega
    clear hs h hb
    go_enter Tryd.func18, Tryd.ntmps18
    go_wp2_with fail
    go_ret
    exact ⟨rfl, Below.refl _ _⟩
  · have g1 : ((s.size : Int) != 32) = true := by rw [bne_iff_ne]; omega
    clear hs h
    go_enter Tryd.func18, Tryd.ntmps18
    go_wp2_with fail
    go_ret
    exact ⟨rfl, Below.refl _ _⟩

end Go.Proofs.YtchdnfhajcfdoaaDoor.Sp
