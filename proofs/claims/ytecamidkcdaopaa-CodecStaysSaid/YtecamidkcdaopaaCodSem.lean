/- What a Reader answers at what a Writer laid: plain lists of bytes. -/
import Derived.Test.YtecamidkcdaopaaCodLongW
namespace Go.Proofs.Ytecamidkcdaopaa.Sp
open Go Go.RowKit

theorem p4 : (256 : Nat) ^ 4 = 4294967296 := by decide
theorem p8 : (256 : Nat) ^ 8 = 18446744073709551616 := by decide
theorem app_len (S : ByteArray) (l m : List UInt8) (h : S.data.toList = l ++ m) : S.size = l.length + m.length := by rw [← size_list, h, List.length_append]
theorem rn_at (S : ByteArray) (n : Nat) (R : List UInt8) (hn : n < 18446744073709551616) (h : S.data.toList = be 8 n ++ R) (b : Bool) :
    rnN S = n ∧ (rnS S).data.toList = R ∧ rnB S b = b := by
  have hl := app_len S _ _ h
  rw [be_length] at hl
  have h8 : 8 ≤ S.size := by omega
  refine ⟨?_, ?_, if_pos h8⟩
  · unfold rnN
    rw [if_pos h8, h, List.take_append_of_le_length (by rw [be_length]; omega), List.take_of_length_le (by rw [be_length]; omega), num_be, p8, Nat.mod_eq_of_lt hn]
  · unfold rnS
    rw [if_pos h8, dr_list, h, List.drop_append_of_le_length (by rw [be_length]; omega), List.drop_of_length_le (by rw [be_length]; omega), List.nil_append]
theorem rtN_at (S : ByteArray) (n : Nat) (R : List UInt8) (hn : n < 4294967296) (h : S.data.toList = be 4 n ++ R) : rtN S = n := by
  unfold rtN
  rw [h, List.take_append_of_le_length (by rw [be_length]; omega), List.take_of_length_le (by rw [be_length]; omega), num_be, p4, Nat.mod_eq_of_lt hn]
theorem rt_at (S s : ByteArray) (R : List UInt8) (most : Int) (hs : s.size < 4294967296) (hm : (s.size : Int) ≤ most) (h : S.data.toList = be 4 s.size ++ s.data.toList ++ R) (b : Bool) :
    rtT S most = s ∧ (rtS S most).data.toList = R ∧ rtB S most b = b := by
  rw [List.append_assoc] at h
  have hN := rtN_at S s.size _ hs h
  have hl := app_len S _ _ h
  rw [be_length, List.length_append, size_list] at hl
  have hok : rtOk S most := ⟨by omega, by rw [hN]; exact hm, by rw [hN]; omega⟩
  have hd : (S.extract 4 S.size).data.toList = s.data.toList ++ R := by
    rw [dr_list, h, List.drop_append_of_le_length (by rw [be_length]; omega), List.drop_of_length_le (by rw [be_length]; omega), List.nil_append]
  refine ⟨?_, ?_, if_pos hok⟩
  · unfold rtT
    rw [if_pos hok, hN]
    apply list_inj
    rw [tk_list, hd, List.take_append_of_le_length (by rw [size_list]; omega), List.take_of_length_le (by rw [size_list]; omega)]
  · unfold rtS
    rw [if_pos hok, hN, dr_list, hd, List.drop_append_of_le_length (by rw [size_list]; omega), List.drop_of_length_le (by rw [size_list]; omega), List.nil_append]
theorem laid_drop (l : List It) (k : Nat) (hk : k < l.length) : laid (l.drop k) = enc (l.getD k It.none_) ++ laid (l.drop (k + 1)) := by
  rw [drop_getD It.none_ l k hk]; rfl
theorem fewL_mem (l : List It) (x : It) (h : x ∈ fewL l) : ∃ y ∈ l, x.t = y.t ∧ x.n = y.n ∧ x.s.size ≤ 1000 := by
  unfold fewL at h
  rw [List.mem_map] at h
  obtain ⟨y, hy, rfl⟩ := h
  exact ⟨y, List.mem_of_mem_take hy, rfl, rfl, by show (y.s.extract 0 (min y.s.size 1000)).size ≤ 1000; simp; omega⟩
theorem few_len (l : List It) : laidLen (fewL l) ≤ 50200 := by
  have h : ∀ m : List It, (∀ x ∈ m, x.s.size ≤ 1000) → laidLen m ≤ m.length * 1004 := by
    intro m
    induction m with
    | nil => intro _; simp [laidLen]
    | cons x m ih =>
      intro hm
      have h1 := ih (fun y hy => hm y (List.mem_cons_of_mem _ hy))
      have h2 := hm x (List.mem_cons_self ..)
      have h3 : x.long ≤ 1004 := by unfold It.long; split <;> omega
      simp only [laidLen, List.map_cons, List.sum_cons, List.length_cons] at h1 ⊢
      omega
  have h1 := h (fewL l) (fun x hx => by obtain ⟨_, _, _, _, h⟩ := fewL_mem l x hx; exact h)
  have h2 := fewL_length l
  have h3 : (fewL l).length * 1004 ≤ 50 * 1004 := Nat.mul_le_mul_right _ (by omega)
  omega

end Go.Proofs.Ytecamidkcdaopaa.Sp
