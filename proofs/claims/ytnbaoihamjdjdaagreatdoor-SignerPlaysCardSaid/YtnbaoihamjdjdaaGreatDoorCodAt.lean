/- What a Reader answers at what a Writer laid, and the other way round: plain lists of bytes. -/
import Derived.Test.YtnbaoihamjdjdaaGreatDoorCodR
namespace Go.Proofs.YtnbaoihamjdjdaaGreatDoor.Sp
open Go Go.RowKit
set_option maxRecDepth 100000

theorem p4 : (256 : Nat) ^ 4 = 4294967296 := by decide
theorem p8 : (256 : Nat) ^ 8 = 18446744073709551616 := by decide
theorem app_len (S : ByteArray) (l m : List UInt8) (h : S.data.toList = l ++ m) : S.size = l.length + m.length := by rw [← size_list, h, List.length_append]
theorem rn_at (S : ByteArray) (n : Nat) (R : List UInt8) (hn : n < 18446744073709551616) (h : S.data.toList = be 8 n ++ R) (b : Bool) :
    rnN S = n ∧ (rnS S).data.toList = R ∧ rnB S b = b := by
  have hl := app_len S _ _ h
  rw [be_length] at hl
  have h8 : 8 ≤ S.size := by omega
  refine ⟨?_, ?_, if_pos h8⟩
  · unfold rnN
    rw [if_pos h8, h, List.take_append_of_le_length (by rw [be_length]; omega), List.take_of_length_le (by rw [be_length]; omega), num_be, p8, Nat.mod_eq_of_lt hn]
  · unfold rnS
    rw [if_pos h8, dr_list, h, List.drop_append_of_le_length (by rw [be_length]; omega), List.drop_of_length_le (by rw [be_length]; omega), List.nil_append]
theorem rtN_at (S : ByteArray) (n : Nat) (R : List UInt8) (hn : n < 4294967296) (h : S.data.toList = be 4 n ++ R) : rtN S = n := by
  unfold rtN
  rw [h, List.take_append_of_le_length (by rw [be_length]; omega), List.take_of_length_le (by rw [be_length]; omega), num_be, p4, Nat.mod_eq_of_lt hn]
theorem rt_at (S s : ByteArray) (R : List UInt8) (most : Int) (hs : s.size < 4294967296) (hm : (s.size : Int) ≤ most) (h : S.data.toList = be 4 s.size ++ s.data.toList ++ R) (b : Bool) :
    rtT S most = s ∧ (rtS S most).data.toList = R ∧ rtB S most b = b := by
  rw [List.append_assoc] at h
  have hN := rtN_at S s.size _ hs h
  have hl := app_len S _ _ h
  rw [be_length, List.length_append, size_list] at hl
  have hok : rtOk S most := ⟨by omega, by rw [hN]; exact hm, by rw [hN]; omega⟩
  have hd : (S.extract 4 S.size).data.toList = s.data.toList ++ R := by
    rw [dr_list, h, List.drop_append_of_le_length (by rw [be_length]; omega), List.drop_of_length_le (by rw [be_length]; omega), List.nil_append]
  refine ⟨?_, ?_, if_pos hok⟩
  · unfold rtT
    rw [if_pos hok, hN]
    apply list_inj
    rw [tk_list, hd, List.take_append_of_le_length (by rw [size_list]; omega), List.take_of_length_le (by rw [size_list]; omega)]
  · unfold rtS
    rw [if_pos hok, hN, dr_list, hd, List.drop_append_of_le_length (by rw [size_list]; omega), List.drop_of_length_le (by rw [size_list]; omega), List.nil_append]
theorem rn_ok (S : ByteArray) (h : 8 ≤ S.size) (b : Bool) : be 8 (rnN S) ++ (rnS S).data.toList = S.data.toList ∧ rnB S b = b := by
  refine ⟨?_, if_pos h⟩
  unfold rnN rnS
  rw [if_pos h, if_pos h, dr_list]
  have hl : (S.data.toList.take 8).length = 8 := by rw [List.length_take, size_list]; omega
  have := be_num (S.data.toList.take 8)
  rw [hl] at this
  rw [this, List.take_append_drop]
theorem rn_no (S : ByteArray) (h : ¬ 8 ≤ S.size) (b : Bool) : rnN S = 0 ∧ rnS S = .empty ∧ rnB S b = true := ⟨if_neg h, if_neg h, if_neg h⟩
theorem rt_no (S : ByteArray) (most : Int) (h : ¬ rtOk S most) (b : Bool) : rtT S most = .empty ∧ rtS S most = .empty ∧ rtB S most b = true := ⟨if_neg h, if_neg h, if_neg h⟩
theorem rt_ok (S : ByteArray) (most : Int) (h : rtOk S most) (b : Bool) :
    (be 4 (rtT S most).size ++ (rtT S most).data.toList) ++ (rtS S most).data.toList = S.data.toList ∧ rtB S most b = b ∧ (rtT S most).size = rtN S := by
  obtain ⟨h4, _, hN⟩ := id h
  have hsz : (rtT S most).size = rtN S := by
    unfold rtT
    rw [if_pos h]
    exact tk_size _ _ (by rw [dr_size]; omega)
  refine ⟨?_, if_pos h, hsz⟩
  rw [hsz]
  unfold rtT rtS
  rw [if_pos h, if_pos h, dr_list, tk_list, dr_list, List.append_assoc, List.take_append_drop]
  have hl : (S.data.toList.take 4).length = 4 := by rw [List.length_take, size_list]; omega
  have := be_num (S.data.toList.take 4)
  rw [hl] at this
  unfold rtN
  rw [this, List.take_append_drop]
theorem rtS_le (A : ByteArray) (m : Int) : (rtS A m).size ≤ A.size := by
  unfold rtS; split
  · rw [dr_size, dr_size]; omega
  · exact Nat.zero_le _
end Go.Proofs.YtnbaoihamjdjdaaGreatDoor.Sp
