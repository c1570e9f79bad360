/- The statement on going on block by block: its walk. -/
import Derived.Test.YtchdnfhajcfdoaaDoorShaRound
import Derived.Deep.DeepCutAuto
namespace Go.Proofs.YtchdnfhajcfdoaaDoor.Sp
open Go Go.RowKit

theorem padB (n : Nat) (h : n ≤ 9223372036854775807) (w : World) (P : ByteArray) (hP : P = ⟨(pad n).toArray⟩) :
    Calls Tryd.prog 14 #[.int .i64 (n : Int)] w fun e w' => e = .returned (.string P) ∧ Below w.heap.size w w' := by
  rw [hP]; exact pad_any n h w
theorem padB_size (n : Nat) (P : ByteArray) (hP : P = ⟨(pad n).toArray⟩) : P.size = 9 + zeros n := by
  rw [hP]; show (pad n).toArray.size = _; rw [List.size_toArray, pad_length]
theorem sumA (b : ByteArray) (hb : b.size ≤ 9223372036854775000) (w : World) (hT : Tab w) (R : ByteArray) (hR : R = ⟨(sum b.data.toList).toArray⟩) :
    Calls Tryd.prog 12 #[.string b] w fun e w' => e = .returned (.string R) ∧ Below w.heap.size w w' := by
  rw [hR]; exact sum_any b hb w hT

set_option maxHeartbeats 1000000 in
theorem goes_law (s : ByteArray) (hs : s.size ≤ 9223372036854775000) (w : World) (hT : Tab w) :
    Calls Tryd.prog 6 #[.string s] w fun e w' => e = .returned (.bool true) ∧ Below w.heap.size w w' := by
  have HT := Lib.hid hT
  clear hT
  obtain ⟨P, eP⟩ : ∃ P : ByteArray, P = ⟨(pad s.size).toArray⟩ := ⟨_, rfl⟩
  have hPs := padB_size s.size P eP
  have hPz := zeros_le s.size
  have hP72 : P.size ≤ 72 := by omega
  have EP := Lib.hid eP
  have hsum : (s.size + P.size) % 64 = 0 := by rw [hPs]; unfold zeros; omega
  have HSUM := Lib.hid hsum
  have hadd : ¬ 9223372036854775807 < s.size + P.size := by omega
  clear eP hPs hPz hsum
  go_enter Tryd.func6, Tryd.ntmps6
  go_wp2_with fail
  refine (awake_any _ HT.out).mono ?_
  rintro e w1 ⟨rfl, hb1⟩
  have B1 := Lib.hid hb1
  clear hb1
  go_wp2_with fail
  refine (first_any _).mono ?_
  rintro e w2 ⟨rfl, hb2⟩
  have B2 := Lib.hid (B1.out.trans (hb2.mono B1.out.size))
  clear hb2
  go_wp2_with fail
  refine (padB s.size (by omega) _ P EP.out).mono ?_
  rintro e w3 ⟨rfl, hb3⟩
  have B3 := Lib.hid (B2.out.trans (hb3.mono B2.out.size))
  clear hb3
  go_upto_region 4 with fail
  obtain ⟨F, eF⟩ : ∃ F : ByteArray, F = ⟨(encode st0).toArray⟩ := ⟨_, rfl⟩
  obtain ⟨A, eA⟩ : ∃ A : ByteArray, A = s ++ P := ⟨_, rfl⟩
  have hAs : A.size = s.size + P.size := by rw [eA]; simp
  have hAl : A.data.toList = padded s.data.toList := by rw [eA]; unfold padded; rw [EP.out, size_list]; simp
  have HAL := Lib.hid hAl
  have HAS := Lib.hid (show A.size % 64 = 0 from by rw [hAs]; exact HSUM.out)
  have hA1 : A.size ≤ 9223372036854775500 := by omega
  have g1 : ((A.size : Int) % 64 != 0) = false := by have := HAS.out; rw [bne_eq_false_iff_eq]; omega
  have hF : F.size = 32 := by rw [eF]; exact encB_size st0
  have g2 : ((F.size : Int) != 32) = false := by rw [hF]; rfl
  have EF := Lib.hid eF
  rw [← eF, ← eA]
  clear eF eA hAs hAl hF hadd
  go_wp2_with fail
  go_loopw [4, 6] (fun v i wr => ∃ (j : Nat) (G : ByteArray), v = .string G ∧ i = .int .i64 j ∧ j % 64 = 0 ∧ j ≤ A.size ∧ G = encB (absorb (j / 64) st0 A.data.toList) ∧ Below w.heap.size w wr) (fun _ i _ => A.size - (intOf i).toNat)
  case atStart => exact ⟨0, F, rfl, rfl, rfl, Nat.zero_le _, EF.out, B3.out⟩
  case round =>
    obtain ⟨j, G, rfl, rfl, hj, hjA, hG, hbel⟩ := hrel
    have HJ := Lib.hid hj
    have HG := Lib.hid hG
    have HB := Lib.hid hbel
    clear hG hbel
    have hGs : G.size = 32 := by rw [HG.out]; exact encB_size _
    have HGS := Lib.hid hGs
    by_cases hlt : j < A.size
    · have hj64 : j + 64 ≤ A.size := by have := HAS.out; omega
      clear hj hGs
      go_wp2_with fail
      obtain ⟨R, eR⟩ : ∃ R : ByteArray, R = ⟨(encode (compress (decode G.data.toList) (A.extract j (j + 64)).data.toList)).toArray⟩ := ⟨_, rfl⟩
      have ER := Lib.hid eR
      have hRn : R = encB (absorb ((j + 64) / 64) st0 A.data.toList) := by
        rw [eR, HG.out]; exact step_block A st0 j HJ.out
      have HR := Lib.hid hRn
      have HTr := Lib.hid (HT.out.below HB.out HT.out.lt)
      clear eR hRn
      refine (block_ok G (A.extract j (j + 64)) HGS.out (by simp; omega) _ HTr.out R ER.out).mono ?_
      rintro e w4 ⟨rfl, hb4⟩
      have B4 := Lib.hid (HB.out.trans (hb4.mono HB.out.size))
      clear hb4
      go_wp2_with fail
      go_roundw
      case rel => exact ⟨j + 64, R, rfl, by go_num, by have := HJ.out; omega, hj64, HR.out, B4.out⟩
      case measure => simp [intOf]; omega
    · have hjA2 : j = A.size := by omega
      have hGsum : G = ⟨(sum s.data.toList).toArray⟩ := by rw [HG.out, hjA2]; exact sumB s A HAL.out
      have HGsum := Lib.hid hGsum
      have HTr := Lib.hid (HT.out.below HB.out HT.out.lt)
      have g3 : ((G.size : Int) == 32) = true := by rw [hGs]; rfl
      have g4 : ¬ (j : Int) < (A.size : Int) := by omega
      clear hGsum hjA2 hGs hj
      go_wp2_with fail
      refine (sumA s hs _ HTr.out G HGsum.out).mono ?_
      rintro e w4 ⟨rfl, hb4⟩
      have B4 := Lib.hid (HB.out.trans (hb4.mono HB.out.size))
      clear hb4
      go_wp2_with fail
      go_ret
      exact ⟨rfl, B4.out⟩

end Go.Proofs.YtchdnfhajcfdoaaDoor.Sp
