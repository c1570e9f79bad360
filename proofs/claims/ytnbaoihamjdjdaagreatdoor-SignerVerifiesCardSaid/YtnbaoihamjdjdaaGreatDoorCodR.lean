/- Package codec: the contracts of a Reader. -/
import Derived.Test.YtnbaoihamjdjdaaGreatDoorCodW
import Derived.Test.YtnbaoihamjdjdaaGreatDoorTrgA
import Derived.Lib.BufferWrite
import Derived.Lib.UnsafeStr
import Derived.Laws.MakeOwn
import Derived.Laws.Bits64b
namespace Go.Proofs.YtnbaoihamjdjdaaGreatDoor.Sp
open Go Go.RowKit
set_option maxRecDepth 100000

/-- A Reader whose remaining bytes are S. -/
def Rd (w : World) (g : Nat) (S : ByteArray) (b : Bool) : Prop := Blk w g 84 #[.string S, .bool b]

theorem newReader_any (s : ByteArray) (w : World) :
    Calls Tryz.prog 35 #[.string s] w fun e w' => e = .returned (.pointer (some ⟨w.heap.size, 0, none⟩)) ∧ w' = w.alloc (.cells #[.string s, .bool false] 84) := by
  go_enter Tryz.func35, Tryz.ntmps35
  go_wp2
  go_ret
  exact ⟨rfl, rfl⟩

theorem fail_any (g : Nat) (S : ByteArray) (b : Bool) (w : World) (hR : Rd w g S b) :
    Calls Tryz.prog 68 #[.pointer (some ⟨g, 0, none⟩)] w fun e w' => e = .returned (.tuple #[]) ∧ Rd w' g .empty true ∧ Only g w w' := by
  have HR := Lib.hid hR
  have h0 : w.cell? ⟨g, 0, none⟩ = some (.string S) := hR.cell 0
  have h1 : w.cell? ⟨g, 1, none⟩ = some (.bool b) := hR.cell 1
  have f0 := hR.frozen 0
  have f1 := hR.frozen 1
  clear hR
  go_enter Tryz.func68, Tryz.ntmps68
  go_wp2_with fail
  go_end0
  exact ⟨rfl, (HR.out.set_ 0 _).set_ 1 _, ((Only.refl g w).set_ 0 _).set_ 1 _⟩

theorem ret_u64 {a b : Nat} (h : a = b) : Ending.returned (.int .u64 (a : Int)) = .returned (.int .u64 (b : Int)) := by rw [h]
theorem empty_text (S : ByteArray) : S.toList.isEmpty = (!false && decide (S.size = 0)) := by
  rw [ByteArray.toList_eq, Bool.eq_iff_iff]
  have h := size_list S
  simp only [List.isEmpty_iff, Bool.not_false, Bool.true_and, decide_eq_true_iff]
  rw [← List.length_eq_zero_iff, h]
theorem end_any (g : Nat) (S : ByteArray) (b : Bool) (w : World) (hR : Rd w g S b) :
    Calls Tryz.prog 39 #[.pointer (some ⟨g, 0, none⟩)] w fun e w' => e = .returned (.bool (!b && decide (S.size = 0))) ∧ w = w' := by
  have h0 : w.cell? ⟨g, 0, none⟩ = some (.string S) := hR.cell 0
  have h1 : w.cell? ⟨g, 1, none⟩ = some (.bool b) := hR.cell 1
  clear hR
  cases b
  · go_enter Tryz.func39, Tryz.ntmps39
    go_wp2_with fail
    go_ret
    exact ⟨ret_bool (empty_text S), rfl⟩
  · go_enter Tryz.func39, Tryz.ntmps39
    go_wp2_with fail
    go_ret
    exact ⟨rfl, rfl⟩

theorem or_shl8 (a : Nat) (b : UInt8) (h : a * 256 < 18446744073709551616) : bits .or .u64 ((a : Int) * 256) (b.toNat : Int) = ((a * 256 + b.toNat : Nat) : Int) := by
  have hb := b.toNat_lt
  rw [show ((a : Int) * 256) = ((a * 256 : Nat) : Int) by omega, bits_or_u64_nat _ _ h (by omega)]
  congr 1
  have := Nat.shiftLeft_add_eq_or_of_lt (a := a) (b := b.toNat) (i := 8) (by omega)
  rw [Nat.shiftLeft_eq] at this
  exact this.symm
theorem byte_u64 (b : UInt8) : IntKind.u64.wrap (b.toNat : Int) = (b.toNat : Int) := by have := b.toNat_lt; rw [IntKind.wrap_u64]; omega
theorem take_byte (s : ByteArray) (k : Nat) (h : k < s.size) : s.data.toList.take (k + 1) = s.data.toList.take k ++ [s[k]] := by
  rw [List.take_succ_eq_append_getElem (by simpa using h)]; rfl
theorem u64_eq {a b : Int} (h : a = b) : Value.int .u64 a = .int .u64 b := by rw [h]

set_option maxHeartbeats 1000000 in
theorem number_any (t : ByteArray) (ht : t.size ≤ 8) (w : World) :
    Calls Tryz.prog 66 #[.string t] w fun e w' => e = .returned (.int .u64 ((num t.data.toList : Nat) : Int)) ∧ w = w' := by
  go_enter Tryz.func66, Tryz.ntmps66
  go_wp2_with fail
  go_loop [3, 7] (fun v i => ∃ (k a : Nat), k ≤ t.size ∧ i = .int .i64 (k : Int) ∧ v = .int .u64 (a : Int) ∧ Hid (a = num (t.data.toList.take k))) (fun _ i => t.size - (intOf i).toNat)
  case atStart => exact ⟨0, 0, Nat.zero_le _, rfl, rfl, rfl⟩
  case round =>
    obtain ⟨k, a, hk, rfl, rfl, HA⟩ := hrel
    by_cases hlt : k < t.size
    · have hki : (k : Int) < (t.size : Int) := by omega
      have hlt1 : a * 256 < 18446744073709551616 := by
        have h := num_lt (t.data.toList.take k)
        rw [← HA.out] at h
        have h2 : (t.data.toList.take k).length ≤ 7 := by rw [List.length_take]; omega
        have h3 : 256 ^ (t.data.toList.take k).length ≤ 256 ^ 7 := Nat.pow_le_pow_right (by omega) h2
        have h4 : (256 : Nat) ^ 7 = 72057594037927936 := by decide
        omega
      have hlti : (a : Int) * 256 < 18446744073709551616 := by omega
      go_wp2_with fail
      refine ⟨⟨k + 1, a * 256 + t[k].toNat, by omega, by go_num, ?_, ?_⟩, by simp [intOf]; omega⟩
      · rw [byte_u64]; exact u64_eq (or_shl8 a t[k] hlt1)
      · show _ = _
        rw [take_byte t k hlt, num_snoc, HA.out]
    · have HK := Lib.hid (show k = t.size by omega)
      have hki : ¬ (k : Int) < (t.size : Int) := by omega
      clear hk hlt
      go_wp2_with fail
      go_ret
      exact ⟨ret_u64 (by rw [HA.out, HK.out, ← size_list, List.take_length]), rfl⟩

theorem take_ok (g n : Nat) (S : ByteArray) (b : Bool) (w : World) (hR : Rd w g S b) (hn : n ≤ S.size) (_hs : S.size ≤ 9223372036854775807) :
    Calls Tryz.prog 67 #[.pointer (some ⟨g, 0, none⟩), .int .i64 (n : Int)] w fun e w' => e = .returned (.string (S.extract 0 n)) ∧ Rd w' g (S.extract n S.size) b ∧ Only g w w' := by
  have HR := Lib.hid hR
  have h0 : w.cell? ⟨g, 0, none⟩ = some (.string S) := hR.cell 0
  have f0 := hR.frozen 0
  have hni : (n : Int) ≤ (S.size : Int) := by omega
  clear hR
  go_enter Tryz.func67, Tryz.ntmps67
  go_wp2_with fail
  go_ret
  exact ⟨rfl, HR.out.set_ 0 _, (Only.refl g w).set_ 0 _⟩

theorem take_no (g n : Nat) (S : ByteArray) (b : Bool) (w : World) (hR : Rd w g S b) (hn : S.size < n) (_hs : n ≤ 9223372036854775807) :
    Calls Tryz.prog 67 #[.pointer (some ⟨g, 0, none⟩), .int .i64 (n : Int)] w fun e w' => e = .returned (.string .empty) ∧ Rd w' g .empty true ∧ Only g w w' := by
  have HR := Lib.hid hR
  have h0 : w.cell? ⟨g, 0, none⟩ = some (.string S) := hR.cell 0
  have hni : (S.size : Int) < (n : Int) := by omega
  clear hR
  go_enter Tryz.func67, Tryz.ntmps67
  go_wp2_with fail
  refine (fail_any g S b _ HR.out).mono ?_
  rintro e w1 ⟨rfl, h1, h2⟩
  have H1 := Lib.hid h1
  have H2 := Lib.hid h2
  clear h1 h2
  go_wp2_with fail
  go_ret
  exact ⟨rfl, H1.out, H2.out⟩

/-- What a Reader's Num answers, and leaves. -/
def rnN (S : ByteArray) : Nat := if 8 ≤ S.size then num (S.data.toList.take 8) else 0
def rnS (S : ByteArray) : ByteArray := if 8 ≤ S.size then S.extract 8 S.size else .empty
def rnB (S : ByteArray) (b : Bool) : Bool := if 8 ≤ S.size then b else true
theorem rnN_lt (S : ByteArray) : rnN S < 18446744073709551616 := by
  unfold rnN
  split
  · have h := num_lt (S.data.toList.take 8)
    have h2 : (S.data.toList.take 8).length ≤ 8 := by rw [List.length_take]; omega
    have h3 : 256 ^ (S.data.toList.take 8).length ≤ 256 ^ 8 := Nat.pow_le_pow_right (by omega) h2
    have h4 : (256 : Nat) ^ 8 = 18446744073709551616 := by decide
    omega
  · omega
theorem tk_list (S : ByteArray) (n : Nat) : (S.extract 0 n).data.toList = S.data.toList.take n := by rw [extract_list]; simp
theorem tk_size (S : ByteArray) (n : Nat) (h : n ≤ S.size) : (S.extract 0 n).size = n := by simp; omega
theorem tk_size_le (S : ByteArray) (n : Nat) : (S.extract 0 n).size ≤ n := by simp; omega
theorem dr_list (S : ByteArray) (n : Nat) : (S.extract n S.size).data.toList = S.data.toList.drop n := Lib.extract_to_end S n
theorem dr_size (S : ByteArray) (n : Nat) : (S.extract n S.size).size = S.size - n := by simp

theorem rnum_any (g : Nat) (S : ByteArray) (b : Bool) (w : World) (hR : Rd w g S b) (hs : S.size ≤ 9223372036854775807) :
    Calls Tryz.prog 38 #[.pointer (some ⟨g, 0, none⟩)] w fun e w' => e = .returned (.int .u64 ((rnN S : Nat) : Int)) ∧ Rd w' g (rnS S) (rnB S b) ∧ Only g w w' := by
  have HR := Lib.hid hR
  clear hR
  by_cases h8 : 8 ≤ S.size
  · have e1 : rnN S = num (S.extract 0 8).data.toList := by unfold rnN; rw [if_pos h8, tk_list]
    have e2 : rnS S = S.extract 8 S.size := if_pos h8
    have e3 : rnB S b = b := if_pos h8
    rw [e1, e2, e3]
    clear e1 e2 e3
    have h8s := tk_size_le S 8
    go_enter Tryz.func38, Tryz.ntmps38
    go_wp2_with fail
    refine (take_ok g 8 S b _ HR.out h8 hs).mono ?_
    rintro e w1 ⟨rfl, h1, h2⟩
    have H1 := Lib.hid h1
    have H2 := Lib.hid h2
    clear h1 h2
    obtain ⟨t, et⟩ : ∃ t, t = S.extract 0 8 := ⟨_, rfl⟩
    rw [← et] at h8s ⊢
    have ET := Lib.hid et
    clear et
    go_wp2_with fail
    refine (number_any t h8s _).mono ?_
    rintro e w2 ⟨rfl, rfl⟩
    go_wp2_with fail
    go_ret
    exact ⟨ret_u64 (by rw [ET.out]), H1.out, H2.out⟩
  · have e1 : rnN S = 0 := if_neg h8
    have e2 : rnS S = .empty := if_neg h8
    have e3 : rnB S b = true := if_neg h8
    rw [e1, e2, e3]
    clear e1 e2 e3
    go_enter Tryz.func38, Tryz.ntmps38
    go_wp2_with fail
    refine (take_no g 8 S b _ HR.out (by omega) (by omega)).mono ?_
    rintro e w1 ⟨rfl, h1, h2⟩
    have H1 := Lib.hid h1
    have H2 := Lib.hid h2
    clear h1 h2
    go_wp2_with fail
    refine (number_any .empty (by decide) _).mono ?_
    rintro e w2 ⟨rfl, rfl⟩
    go_wp2_with fail
    go_ret
    exact ⟨rfl, H1.out, H2.out⟩

/-- What a Reader's Text answers, and leaves. -/
def rtN (S : ByteArray) : Nat := num (S.data.toList.take 4)
def rtOk (S : ByteArray) (most : Int) : Prop := 4 ≤ S.size ∧ (rtN S : Int) ≤ most ∧ 4 + rtN S ≤ S.size
instance (S : ByteArray) (most : Int) : Decidable (rtOk S most) := by unfold rtOk; infer_instance
def rtT (S : ByteArray) (most : Int) : ByteArray := if rtOk S most then (S.extract 4 S.size).extract 0 (rtN S) else .empty
def rtS (S : ByteArray) (most : Int) : ByteArray := if rtOk S most then (S.extract 4 S.size).extract (rtN S) (S.extract 4 S.size).size else .empty
def rtB (S : ByteArray) (most : Int) (b : Bool) : Bool := if rtOk S most then b else true
theorem rtN_lt (S : ByteArray) : rtN S < 4294967296 := by
  unfold rtN
  have h := num_lt (S.data.toList.take 4)
  have h2 : (S.data.toList.take 4).length ≤ 4 := by rw [List.length_take]; omega
  have h3 : 256 ^ (S.data.toList.take 4).length ≤ 256 ^ 4 := Nat.pow_le_pow_right (by omega) h2
  have h4 : (256 : Nat) ^ 4 = 4294967296 := by decide
  omega

set_option maxHeartbeats 1000000 in
theorem rtext_any (g : Nat) (S : ByteArray) (b : Bool) (most : Int) (hm0 : -9223372036854775808 ≤ most) (hm1 : most ≤ 9223372036854775807) (w : World) (hR : Rd w g S b) (hs : S.size ≤ 140737488355328) :
    Calls Tryz.prog 37 #[.pointer (some ⟨g, 0, none⟩), .int .i64 most] w fun e w' => e = .returned (.string (rtT S most)) ∧ Rd w' g (rtS S most) (rtB S most b) ∧ Only g w w' := by
  have HR := Lib.hid hR
  clear hR
  by_cases h4 : 4 ≤ S.size
  · have h4s := tk_size_le S 4
    have hNl := rtN_lt S
    have hNe := Lib.hid (show num (S.extract 0 4).data.toList = rtN S from by unfold rtN; rw [tk_list])
    have hd := dr_size S 4
    obtain ⟨N, eN⟩ : ∃ N, N = rtN S := ⟨_, rfl⟩
    obtain ⟨D, eD⟩ : ∃ D, D = S.extract 4 S.size := ⟨_, rfl⟩
    have hok : rtOk S most ↔ (N : Int) ≤ most ∧ N ≤ D.size := by unfold rtOk; rw [← eN, eD, hd]; omega
    have ht : rtT S most = if rtOk S most then D.extract 0 N else .empty := by unfold rtT; rw [← eN, ← eD]
    have hS' : rtS S most = if rtOk S most then D.extract N D.size else .empty := by unfold rtS; rw [← eN, ← eD]
    have hB' : rtB S most b = if rtOk S most then b else true := rfl
    rw [ht, hS', hB']
    clear ht hS' hB'
    rw [← eN] at hNl hNe
    rw [← eD] at hd
    have hDl : D.size ≤ 140737488355328 := by omega
    have hNi : (N : Int) < 4294967296 := by omega
    have ED := Lib.hid eD
    have HD := Lib.hid hd
    clear eN eD hd
    by_cases hc1 : (N : Int) ≤ most
    · by_cases hc2 : N ≤ D.size
      · have hk : rtOk S most := hok.2 ⟨hc1, hc2⟩
        rw [if_pos hk, if_pos hk, if_pos hk]
        have hc1' : decide (most < (N : Int)) = false := by rw [decide_eq_false_iff_not]; omega
        clear hok hk hc1
        go_enter Tryz.func37, Tryz.ntmps37
        go_wp2_with fail
        refine (take_ok g 4 S b _ HR.out h4 (by omega)).mono ?_
        rintro e w1 ⟨rfl, h1, h2⟩
        rw [← ED.out] at h1
        have H1 := Lib.hid h1
        have H2 := Lib.hid h2
        clear h1 h2
        go_wp2_with fail
        refine (number_any (S.extract 0 4) (by omega) _).mono ?_
        rintro e w2 ⟨rfl, rfl⟩
        rw [hNe.out]
        go_wp2_with fail
        refine (take_ok g N D b _ H1.out hc2 (by omega)).mono ?_
        rintro e w3 ⟨rfl, h1, h2⟩
        have H3 := Lib.hid h1
        have H4 := Lib.hid (H2.out.trans h2)
        clear h1 h2
        go_wp2_with fail
        refine (clone_any (D.extract 0 N) _ (by simp; omega)).mono ?_
        rintro e w4 ⟨rfl, h1⟩
        have H5 := Lib.hid h1
        clear h1
        go_wp2_with fail
        go_ret
        exact ⟨rfl, Blk.below H3.out H5.out H3.out.lt, H4.out.trans (Only.of_below g H5.out)⟩
      · have hk : ¬ rtOk S most := fun h => hc2 (hok.1 h).2
        rw [if_neg hk, if_neg hk, if_neg hk]
        have hc3 : D.size < N := by omega
        have hc1' : decide (most < (N : Int)) = false := by rw [decide_eq_false_iff_not]; omega
        clear hok hk hc2 hc1
        go_enter Tryz.func37, Tryz.ntmps37
        go_wp2_with fail
        refine (take_ok g 4 S b _ HR.out h4 (by omega)).mono ?_
        rintro e w1 ⟨rfl, h1, h2⟩
        rw [← ED.out] at h1
        have H1 := Lib.hid h1
        have H2 := Lib.hid h2
        clear h1 h2
        go_wp2_with fail
        refine (number_any (S.extract 0 4) (by omega) _).mono ?_
        rintro e w2 ⟨rfl, rfl⟩
        rw [hNe.out]
        go_wp2_with fail
        refine (take_no g N D b _ H1.out hc3 (by omega)).mono ?_
        rintro e w3 ⟨rfl, h1, h2⟩
        have H3 := Lib.hid h1
        have H4 := Lib.hid (H2.out.trans h2)
        clear h1 h2
        go_wp2_with fail
        refine (clone_any .empty _ (Nat.zero_le _)).mono ?_
        rintro e w4 ⟨rfl, h1⟩
        have H5 := Lib.hid h1
        clear h1
        go_wp2_with fail
        go_ret
        exact ⟨rfl, Blk.below H3.out H5.out H3.out.lt, H4.out.trans (Only.of_below g H5.out)⟩
    · have hk : ¬ rtOk S most := fun h => hc1 (hok.1 h).1
      rw [if_neg hk, if_neg hk, if_neg hk]
      have hc3 : most < (N : Int) := by omega
      clear hok hk hc1
      go_enter Tryz.func37, Tryz.ntmps37
      go_wp2_with fail
      refine (take_ok g 4 S b _ HR.out h4 (by omega)).mono ?_
      rintro e w1 ⟨rfl, h1, h2⟩
      rw [← ED.out] at h1
      have H1 := Lib.hid h1
      have H2 := Lib.hid h2
      clear h1 h2
      go_wp2_with fail
      refine (number_any (S.extract 0 4) (by omega) _).mono ?_
      rintro e w2 ⟨rfl, rfl⟩
      rw [hNe.out]
      go_wp2_with fail
      refine (fail_any g D b _ H1.out).mono ?_
      rintro e w3 ⟨rfl, h1, h2⟩
      have H3 := Lib.hid h1
      have H4 := Lib.hid (H2.out.trans h2)
      clear h1 h2
      go_wp2_with fail
      go_ret
      exact ⟨rfl, H3.out, H4.out⟩
  · have hk : ¬ rtOk S most := fun h => h4 h.1
    have e1 : rtT S most = .empty := if_neg hk
    have e2 : rtS S most = .empty := if_neg hk
    have e3 : rtB S most b = true := if_neg hk
    rw [e1, e2, e3]
    have h4' : S.size < 4 := by omega
    clear e1 e2 e3 hk h4
    by_cases hc1 : (0 : Int) ≤ most
    · go_enter Tryz.func37, Tryz.ntmps37
      go_wp2_with fail
      refine (take_no g 4 S b _ HR.out h4' (by omega)).mono ?_
      rintro e w1 ⟨rfl, h1, h2⟩
      have H1 := Lib.hid h1
      have H2 := Lib.hid h2
      clear h1 h2
      go_wp2_with fail
      refine (number_any .empty (by decide) _).mono ?_
      rintro e w2 ⟨rfl, rfl⟩
      rw [show num ByteArray.empty.data.toList = 0 from rfl]
      go_wp2_with fail
      refine (take_ok g 0 .empty true _ H1.out (by decide) (by decide)).mono ?_
      rintro e w3 ⟨rfl, h1, h2⟩
      have H3 := Lib.hid h1
      have H4 := Lib.hid (H2.out.trans h2)
      clear h1 h2
      go_wp2_with fail
      refine (clone_any (ByteArray.empty.extract 0 0) _ (Nat.zero_le _)).mono ?_
      rintro e w4 ⟨rfl, h1⟩
      have H5 := Lib.hid h1
      clear h1
      go_wp2_with fail
      go_ret
      exact ⟨rfl, Blk.below H3.out H5.out H3.out.lt, H4.out.trans (Only.of_below g H5.out)⟩
    · have hc3 : most < (0 : Int) := by omega
      clear hc1
      go_enter Tryz.func37, Tryz.ntmps37
      go_wp2_with fail
      refine (take_no g 4 S b _ HR.out h4' (by omega)).mono ?_
      rintro e w1 ⟨rfl, h1, h2⟩
      have H1 := Lib.hid h1
      have H2 := Lib.hid h2
      clear h1 h2
      go_wp2_with fail
      refine (number_any .empty (by decide) _).mono ?_
      rintro e w2 ⟨rfl, rfl⟩
      rw [show num ByteArray.empty.data.toList = 0 from rfl]
      go_wp2_with fail
      refine (fail_any g .empty true _ H1.out).mono ?_
      rintro e w3 ⟨rfl, h1, h2⟩
      have H3 := Lib.hid h1
      have H4 := Lib.hid (H2.out.trans h2)
      clear h1 h2
      go_wp2_with fail
      go_ret
      exact ⟨rfl, H3.out, H4.out⟩

end Go.Proofs.YtnbaoihamjdjdaaGreatDoor.Sp
