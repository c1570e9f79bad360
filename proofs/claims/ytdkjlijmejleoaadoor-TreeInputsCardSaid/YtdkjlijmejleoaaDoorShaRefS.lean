/- The document's own answer for package sha: First, Sum; Block of a wrong length. -/
import Derived.Test.YtdkjlijmejleoaaDoorShaTable2
import Derived.Test.YtdkjlijmejleoaaDoorShaRefP
namespace Go.Proofs.YtdkjlijmejleoaaDoor.Sp
open Go Go.RowKit

set_option maxRecDepth 100000 in
theorem rblock_no (s b : ByteArray) (h : ¬ (s.size = 32 ∧ b.size = 64)) (w : World) :
    Calls Tryd.prog 58 #[.string s, .string b] w fun e w' => e = .returned (.string ⟨#[]⟩) ∧ Below w.heap.size w w' := by
  by_cases hs : s.size = 32
  · have hb : ¬ b.size = 64 := fun hb => h ⟨hs, hb⟩
    have g1 : ((s.size : Int) != 32) = false := by rw [hs]; rfl
    have g2 : ((b.size : Int) != 64) = true := by rw [bne_iff_ne]; omega
    clear hs h hb
    go_enter Tryd.func58, Tryd.ntmps58
    go_wp2_with fail
    go_ret
    exact ⟨rfl, Below.refl _ _⟩
  · have g1 : ((s.size : Int) != 32) = true := by rw [bne_iff_ne]; omega
    clear hs h
    go_enter Tryd.func58, Tryd.ntmps58
    go_wp2_with fail
    go_ret
    exact ⟨rfl, Below.refl _ _⟩
theorem textB_enc (T : St) (R : ByteArray) (h : R = ⟨(encode T).toArray⟩) : R = textB T.ws := h

theorem rfirst_any (w : World) (hF : FTab w) (R : ByteArray) (hR : R = textB st0.ws) :
    Calls Tryd.prog 56 #[] w fun e w' => e = .returned (.string R) ∧ Below w.heap.size w w' := by
  have HF := Lib.hid hF
  have HR := Lib.hid hR
  clear hF hR
  go_enter Tryd.func56, Tryd.ntmps56
  go_wp2_with fail
  refine (text_any 1 0 8 8 st0.ws _ ⟨rfl, fun j hj => by rw [Nat.zero_add]; exact HF.out j hj⟩ (by omega)).mono ?_
  rintro e w1 ⟨rfl, hb1⟩
  have B1 := Lib.hid hb1
  clear hb1
  go_wp2_with fail
  go_ret
  exact ⟨ret_text HR.out.symm, B1.out⟩

theorem rpadB (n : Nat) (h : n ≤ 9223372036854775807) (w : World) (P : ByteArray) (hP : P = ⟨(pad n).toArray⟩) :
    Calls Tryd.prog 57 #[.int .i64 (n : Int)] w fun e w' => e = .returned (.string P) ∧ Below w.heap.size w w' := by
  rw [hP]; exact rpad_any n h w

set_option maxHeartbeats 1000000 in
theorem rsum_any (s : ByteArray) (hs : s.size ≤ 9223372036854775000) (w : World) (hK : KTab w) (hF : FTab w) (R : ByteArray) (hR : R = ⟨(sum s.data.toList).toArray⟩) :
    Calls Tryd.prog 53 #[.string s] w fun e w' => e = .returned (.string R) ∧ Below w.heap.size w w' := by
  have HK := Lib.hid hK
  have HF := Lib.hid hF
  have HR := Lib.hid hR
  clear hK hF hR
  obtain ⟨P, eP⟩ : ∃ P : ByteArray, P = ⟨(pad s.size).toArray⟩ := ⟨_, rfl⟩
  have hPs := padB_size s.size P eP
  have hPz := zeros_le s.size
  have hP72 : P.size ≤ 72 := by omega
  have EP := Lib.hid eP
  have HSUM := Lib.hid (show (s.size + P.size) % 64 = 0 from by rw [hPs]; unfold zeros; omega)
  have hadd : ¬ 9223372036854775807 < s.size + P.size := by omega
  obtain ⟨F, eF⟩ : ∃ F : ByteArray, F = textB st0.ws := ⟨_, rfl⟩
  have EF := Lib.hid eF
  clear eP hPs hPz eF
  go_enter Tryd.func53, Tryd.ntmps53
  go_wp2_with fail
  refine (rfirst_any _ HF.out F EF.out).mono ?_
  rintro e w1 ⟨rfl, hb1⟩
  have B1 := Lib.hid hb1
  clear hb1
  go_wp2_with fail
  refine (rpadB s.size (by omega) _ P EP.out).mono ?_
  rintro e w2 ⟨rfl, hb2⟩
  have B2 := Lib.hid (B1.out.trans (hb2.mono B1.out.size))
  clear hb2
  go_upto_region 3 with fail
  obtain ⟨A, eA⟩ : ∃ A : ByteArray, A = s ++ P := ⟨_, rfl⟩
  have hAs : A.size = s.size + P.size := by rw [eA]; simp
  have hAl : A.data.toList = padded s.data.toList := by rw [eA]; unfold padded; rw [EP.out, size_list]; simp
  have HAL := Lib.hid hAl
  have HAS := Lib.hid (show A.size % 64 = 0 from by rw [hAs]; exact HSUM.out)
  have hA1 : A.size ≤ 9223372036854775500 := by omega
  rw [← eA]
  clear eA hAs hAl hadd
  go_wp2_with fail
  go_loopw [3, 5] (fun v i wr => ∃ (j : Nat) (G : ByteArray), v = .string G ∧ i = .int .i64 j ∧ j % 64 = 0 ∧ j ≤ A.size ∧ G = encB (absorb (j / 64) st0 A.data.toList) ∧ Below w.heap.size w wr) (fun _ i _ => A.size - (intOf i).toNat)
  case atStart => exact ⟨0, F, rfl, rfl, rfl, Nat.zero_le _, EF.out, B2.out⟩
  case round =>
    obtain ⟨j, G, rfl, rfl, hj, hjA, hG, hbel⟩ := hrel
    have HJ := Lib.hid hj
    have HG := Lib.hid hG
    have HB := Lib.hid hbel
    clear hG hbel
    have HGS := Lib.hid (show G.size = 32 from by rw [HG.out]; exact encB_size _)
    by_cases hlt : j < A.size
    · have hj64 : j + 64 ≤ A.size := by have := HAS.out; omega
      have hc : (j : Int) + 64 ≤ (A.size : Int) := by omega
      clear hj
      go_wp2_with fail
      obtain ⟨T, eT⟩ : ∃ T : ByteArray, T = ⟨(encode (compress (decode G.data.toList) (A.extract j (j + 64)).data.toList)).toArray⟩ := ⟨_, rfl⟩
      have ET := Lib.hid eT
      have hTn : T = encB (absorb ((j + 64) / 64) st0 A.data.toList) := by
        rw [eT, HG.out]; exact step_block A st0 j HJ.out
      have HTn := Lib.hid hTn
      have HKr := Lib.hid (HK.out.below HB.out HK.out.lt)
      clear eT hTn
      refine (rblock_yes G (A.extract j (j + 64)) HGS.out (by simp; omega) _ HKr.out T (textB_enc _ T ET.out)).mono ?_
      rintro e w4 ⟨rfl, hb4⟩
      have B4 := Lib.hid (HB.out.trans (hb4.mono HB.out.size))
      clear hb4
      go_wp2_with fail
      go_roundw
      case rel => exact ⟨j + 64, T, rfl, by go_num, by have := HJ.out; omega, hj64, HTn.out, B4.out⟩
      case measure => simp [intOf]; omega
    · have hjA2 : j = A.size := by omega
      have hGsum := Lib.hid (show G = R from by rw [HG.out, hjA2, HR.out]; exact sumB s A HAL.out)
      have hc : ¬ (j : Int) + 64 ≤ (A.size : Int) := by omega
      clear hjA2 hj
      go_wp2_with fail
      go_ret
      exact ⟨ret_text hGsum.out, HB.out⟩

end Go.Proofs.YtdkjlijmejleoaaDoor.Sp
