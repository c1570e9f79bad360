/- The statement on extensions: its walk. -/
import Derived.Test.YtchdnfhajcfdoaaDoorShaGoesW
namespace Go.Proofs.YtchdnfhajcfdoaaDoor.Sp
open Go Go.RowKit

/-- A sum goes on behind the padded text. -/
theorem sum_ext (s t : List UInt8) :
    encode (absorb ((t ++ pad ((padded s).length + t.length)).length / 64) (decode (sum s)) (t ++ pad ((padded s).length + t.length))) = sum (padded s ++ t) := by
  have hp := padded_length s
  have h := absorb_append (t ++ pad ((padded s).length + t.length)) ((t ++ pad ((padded s).length + t.length)).length / 64) ((padded s).length / 64) st0 (padded s) (by omega)
  have e1 : decode (sum s) = absorb ((padded s).length / 64) st0 (padded s) := by unfold sum; rw [decode_encode]
  rw [e1, ← h]
  have e2 : padded (padded s ++ t) = padded s ++ (t ++ pad ((padded s).length + t.length)) := by
    rw [padded, List.length_append, List.append_assoc]
  have e3 : sum (padded s ++ t) = encode (absorb ((padded (padded s ++ t)).length / 64) st0 (padded (padded s ++ t))) := rfl
  have e4 : ∀ X : List UInt8, (padded s ++ X).length / 64 = (padded s).length / 64 + X.length / 64 := fun X => by rw [List.length_append]; omega
  rw [e3, e2, e4]

set_option maxHeartbeats 1000000 in
theorem extends_law (s t : ByteArray) (hs : s.size ≤ 140737488355328) (ht : t.size ≤ 140737488355328) (w : World) (hT : Tab w) :
    Calls Tryd.prog 8 #[.string s, .string t] w fun e w' => e = .returned (.bool true) ∧ Below w.heap.size w w' := by
  have HT := Lib.hid hT
  clear hT
  obtain ⟨P, eP⟩ : ∃ P : ByteArray, P = ⟨(pad s.size).toArray⟩ := ⟨_, rfl⟩
  have hPs := padB_size s.size P eP
  have hPz := zeros_le s.size
  have hP72 : P.size ≤ 72 := by omega
  have EP := Lib.hid eP
  have hadd : ¬ 9223372036854775807 < s.size + P.size := by omega
  clear eP hPs hPz
  go_enter Tryd.func8, Tryd.ntmps8
  go_wp2_with fail
  refine (awake_any _ HT.out).mono ?_
  rintro e w1 ⟨rfl, hb1⟩
  have B1 := Lib.hid hb1
  clear hb1
  go_wp2_with fail
  refine (padB s.size (by omega) _ P EP.out).mono ?_
  rintro e w2 ⟨rfl, hb2⟩
  have B2 := Lib.hid (B1.out.trans (hb2.mono B1.out.size))
  clear hb2
  go_upto_region 3 with fail
  obtain ⟨A, eA⟩ : ∃ A : ByteArray, A = s ++ P := ⟨_, rfl⟩
  have hAs : A.size = s.size + P.size := by rw [eA]; simp
  have hAl : A.data.toList = padded s.data.toList := by rw [eA]; unfold padded; rw [EP.out, size_list]; simp
  have HAL := Lib.hid hAl
  have hA1 : A.size ≤ 140737488355400 := by omega
  rw [← eA]
  clear eA hAs hAl hadd
  have HT2 := Lib.hid (HT.out.below B2.out HT.out.lt)
  obtain ⟨F, eF⟩ : ∃ F : ByteArray, F = ⟨(sum s.data.toList).toArray⟩ := ⟨_, rfl⟩
  have hFs : F.size = 32 := by rw [eF]; exact encB_size _
  have g2 : ((F.size : Int) != 32) = false := by rw [hFs]; rfl
  have EF := Lib.hid eF
  clear eF hFs
  go_wp2_with fail
  refine (sumA s (by omega) _ HT2.out F EF.out).mono ?_
  rintro e w3 ⟨rfl, hb3⟩
  have B3 := Lib.hid (B2.out.trans (hb3.mono B2.out.size))
  clear hb3
  obtain ⟨L, eL⟩ : ∃ L : Nat, L = A.size + t.size := ⟨_, rfl⟩
  obtain ⟨Q, eQ⟩ : ∃ Q : ByteArray, Q = ⟨(pad L).toArray⟩ := ⟨_, rfl⟩
  have hQs := padB_size L Q eQ
  have hQz := zeros_le L
  have hL1 : L ≤ 281474976710756 := by omega
  have hQ72 : Q.size ≤ 72 := by omega
  have hL : (A.size : Int) + (t.size : Int) = (L : Int) := by omega
  have HQs := Lib.hid hQs
  have EQ := Lib.hid eQ
  have EL := Lib.hid eL
  have hadd : ¬ 9223372036854775807 < t.size + Q.size := by omega
  clear hQs hQz eQ eL
  go_wp2_with fail
  refine (padB L (by omega) _ Q EQ.out).mono ?_
  rintro e w4 ⟨rfl, hb4⟩
  have B4 := Lib.hid (B3.out.trans (hb4.mono B3.out.size))
  clear hb4 hL
  go_upto_region 5 with fail
  obtain ⟨D, eD⟩ : ∃ D : ByteArray, D = t ++ Q := ⟨_, rfl⟩
  have hDs : D.size = t.size + Q.size := by rw [eD]; simp
  have hDl : D.data.toList = t.data.toList ++ pad L := by rw [eD, EQ.out]; simp
  have HDL := Lib.hid hDl
  have hlenA : A.size = (padded s.data.toList).length := by rw [← size_list, HAL.out]
  have HDS := Lib.hid (show D.size % 64 = 0 from by
    have h1 := HQs.out; have h2 := EL.out; have h3 := padded_length s.data.toList
    rw [← hlenA] at h3
    unfold zeros at h1; omega)
  have hD1 : D.size ≤ 9223372036854775000 := by omega
  have g1 : ((D.size : Int) % 64 != 0) = false := by have := HDS.out; rw [bne_eq_false_iff_eq]; omega
  rw [← eD]
  clear eD hDs hDl hlenA hadd
  obtain ⟨S0, eS⟩ : ∃ S0 : St, S0 = decode (sum s.data.toList) := ⟨_, rfl⟩
  have hF0 : F = encB S0 := by
    rw [eS, EF.out]; unfold encB sum; rw [decode_encode]
  have HF0 := Lib.hid hF0
  have ES := Lib.hid eS
  clear eS hF0
  go_wp2_with fail
  go_loopw [7, 9] (fun v i wr => ∃ (j : Nat) (G : ByteArray), v = .string G ∧ i = .int .i64 j ∧ j % 64 = 0 ∧ j ≤ D.size ∧ G = encB (absorb (j / 64) S0 D.data.toList) ∧ Below w.heap.size w wr) (fun _ i _ => D.size - (intOf i).toNat)
  case atStart => exact ⟨0, F, rfl, rfl, rfl, Nat.zero_le _, HF0.out, B4.out⟩
  case round =>
    obtain ⟨j, G, rfl, rfl, hj, hjA, hG, hbel⟩ := hrel
    have HJ := Lib.hid hj
    have HG := Lib.hid hG
    have HB := Lib.hid hbel
    clear hG hbel
    have hGs : G.size = 32 := by rw [HG.out]; exact encB_size _
    have HGS := Lib.hid hGs
    by_cases hlt : j < D.size
    · have hj64 : j + 64 ≤ D.size := by have := HDS.out; omega
      clear hj hGs
      go_wp2_with fail
      obtain ⟨R, eR⟩ : ∃ R : ByteArray, R = ⟨(encode (compress (decode G.data.toList) (D.extract j (j + 64)).data.toList)).toArray⟩ := ⟨_, rfl⟩
      have ER := Lib.hid eR
      have hRn : R = encB (absorb ((j + 64) / 64) S0 D.data.toList) := by
        rw [eR, HG.out]; exact step_block D S0 j HJ.out
      have HR := Lib.hid hRn
      have HTr := Lib.hid (HT.out.below HB.out HT.out.lt)
      clear eR hRn
      refine (block_ok G (D.extract j (j + 64)) HGS.out (by simp; omega) _ HTr.out R ER.out).mono ?_
      rintro e w5 ⟨rfl, hb5⟩
      have B5 := Lib.hid (HB.out.trans (hb5.mono HB.out.size))
      clear hb5
      go_wp2_with fail
      go_roundw
      case rel => exact ⟨j + 64, R, rfl, by go_num, by have := HJ.out; omega, hj64, HR.out, B5.out⟩
      case measure => simp [intOf]; omega
    · have hjA2 : j = D.size := by omega
      have hGsum : G = ⟨(sum (A ++ t).data.toList).toArray⟩ := by
        have e1 : (A ++ t).data.toList = padded s.data.toList ++ t.data.toList := by rw [← HAL.out]; simp
        rw [HG.out, hjA2, e1, ← sum_ext]
        unfold encB
        rw [ES.out, ← size_list D, HDL.out, EL.out, ← size_list A, HAL.out, ← size_list t]
      have HGsum := Lib.hid hGsum
      have HTr := Lib.hid (HT.out.below HB.out HT.out.lt)
      have g4 : ¬ (j : Int) < (D.size : Int) := by omega
      have hadd : ¬ 9223372036854775807 < A.size + t.size := by omega
      clear hGsum hjA2 hGs hj
      go_wp2_with fail
      refine (sumA (A ++ t) (by simp; omega) _ HTr.out G HGsum.out).mono ?_
      rintro e w5 ⟨rfl, hb5⟩
      have B5 := Lib.hid (HB.out.trans (hb5.mono HB.out.size))
      clear hb5
      go_wp2_with fail
      go_ret
      exact ⟨rfl, B5.out⟩

end Go.Proofs.YtchdnfhajcfdoaaDoor.Sp
