/- The walk of CodecCuts. -/
import Derived.Test.YtecamidkcdaopaaCodForthW
namespace Go.Proofs.Ytecamidkcdaopaa.Sp
open Go Go.RowKit

theorem cut_whole (S : ByteArray) (e R : List UInt8) (m : Nat) (h : S.data.toList = (e ++ R).take m) (hm : e.length ≤ m) : S.data.toList = e ++ R.take (m - e.length) := by
  rw [h, List.take_append, List.take_of_length_le hm]
theorem cut_size (S : ByteArray) (T : List UInt8) (m : Nat) (h : S.data.toList = T.take m) (hm : m ≤ T.length) : S.size = m := by
  rw [← size_list, h, List.length_take]; omega
theorem cut_text (S s : ByteArray) (R : List UInt8) (m : Nat) (most : Int) (hs : s.size < 4294967296) (h : S.data.toList = (be 4 s.size ++ s.data.toList ++ R).take m) (hS : S.size = m) (hm : m < 4 + s.size) : ¬ rtOk S most := by
  rintro ⟨h4, _, hN⟩
  have hb : S.data.toList.take 4 = be 4 s.size := by
    rw [h, List.take_take, Nat.min_eq_left (by omega), List.append_assoc, List.take_append_of_le_length (by rw [be_length]; omega), List.take_of_length_le (by rw [be_length]; omega)]
  have : rtN S = s.size := by unfold rtN; rw [hb, num_be, p4, Nat.mod_eq_of_lt hs]
  omega
/-- Where the Reader of a text that is cut at N stands behind k items. -/
def CutAt (L : List It) (N k : Nat) (b : Bool) (S : ByteArray) : Prop :=
  b = decide (N < laidLen (L.take k)) ∧ (b = false → laid (L.take k) ++ S.data.toList = (laid L).take N) ∧ (b = true → S = .empty)
theorem cut_rest {L : List It} {N k : Nat} {S : ByteArray} (h : CutAt L N k false S) (hN : N ≤ laidLen L) : laidLen (L.take k) ≤ N ∧ S.data.toList = (laid (L.drop k)).take (N - laidLen (L.take k)) ∧ S.size = N - laidLen (L.take k) := by
  obtain ⟨h1, h2, _⟩ := h
  have hle : laidLen (L.take k) ≤ N := by
    have := of_decide_eq_false h1.symm; omega
  have h3 := h2 rfl
  have e : laid L = laid (L.take k) ++ laid (L.drop k) := by rw [← laid_append, List.take_append_drop]
  have hl := laid_length (L.take k)
  rw [e, List.take_append, List.take_of_length_le (show (laid (L.take k)).length ≤ N by omega), hl] at h3
  have h4 := List.append_cancel_left h3
  refine ⟨hle, h4, ?_⟩
  rw [← size_list, h4, List.length_take, laid_length]
  have h5 : laidLen L = laidLen (L.take k) + laidLen (L.drop k) := by rw [← laid_length, ← laid_length, ← laid_length, e, List.length_append]
  omega
theorem cut_bad {L : List It} {N k : Nat} {S : ByteArray} (h : CutAt L N k true S) (hk : k < L.length) : CutAt L N (k + 1) true .empty := by
  obtain ⟨h1, _, _⟩ := h
  have h2 := laidLen_succ L k hk
  have h3 := of_decide_eq_true h1.symm
  exact ⟨(decide_eq_true (by omega)).symm, (fun h => by cases h), fun _ => rfl⟩
theorem cut_on {L : List It} {N k : Nat} {S S' : ByteArray} {e : List UInt8} (h : CutAt L N k false S) (hk : k < L.length) (he : enc (L.getD k It.none_) = e) (hS : S.data.toList = e ++ S'.data.toList) (hN : N ≤ laidLen L) : CutAt L N (k + 1) false S' := by
  have hle := (cut_rest h hN).2.2
  have hlo := (cut_rest h hN).1
  obtain ⟨h1, h2, _⟩ := h
  have h3 := laidLen_succ L k hk
  have h4 := app_len S _ _ hS
  have h5 := enc_length (L.getD k It.none_)
  rw [he] at h5
  refine ⟨(decide_eq_false (by omega)).symm, fun _ => ?_, fun h => by cases h⟩
  rw [laid_succ L k hk, he, List.append_assoc, ← hS]
  exact h2 rfl
theorem cut_off {L : List It} {N k : Nat} (hk : k < L.length) (h : N < laidLen (L.take k) + (L.getD k It.none_).long) : CutAt L N (k + 1) true .empty := by
  have h2 := laidLen_succ L k hk
  exact ⟨(decide_eq_true (by omega)).symm, (fun h => by cases h), fun _ => rfl⟩

set_option maxHeartbeats 2000000 in
theorem cuts_law (a : Option Addr) (n c : Nat) (l : List It) (cut : Int) (hc0 : -9223372036854775808 ≤ cut) (hc1 : cut ≤ 9223372036854775807) (hwf : ∀ x ∈ l, x.n < 18446744073709551616 ∧ x.s.size ≤ 9223372036854775807) (w : World) (hI : Items w a n l) (hn : n ≤ 9223372036854775807) :
    Calls Try.prog 7 #[.slice a n c, .int .i64 cut] w fun e w' => e = .returned (.bool true) ∧ Below w.heap.size w w' := by
  have HI := Lib.hid hI
  obtain ⟨L, eL⟩ : ∃ L, L = fewL l := ⟨_, rfl⟩
  have hLm : ∀ x ∈ L, x.n < 18446744073709551616 ∧ x.s.size ≤ 1000 := by
    intro x hx; rw [eL] at hx; obtain ⟨y, hy, _, h2, h3⟩ := fewL_mem l x hx; exact ⟨by rw [h2]; exact (hwf y hy).1, h3⟩
  have HLM := Lib.hid hLm
  have hfl := few_len l
  rw [← eL] at hfl
  have HFL := Lib.hid hfl
  have hL50 : L.length ≤ 50 := by rw [eL, fewL_length]; omega
  have HWF := Lib.hid (show ∀ x ∈ l, x.s.size ≤ 9223372036854775807 from fun x hx => (hwf x hx).2)
  have hfew := fun W (h : Items W a n l) => few_any a n c l W h hn HWF.out
  rw [← eL] at hfew
  have HF := Lib.hid hfew
  clear hI hwf hLm hfl eL hfew
  go_enter Try.func7, Try.ntmps7
  go_wp2_with fail
  refine (awake_any _).mono ?_
  rintro e w1 ⟨rfl, h1⟩
  have B1 := Lib.hid h1
  clear h1
  go_wp2_with fail
  refine (HF.out _ (HI.out.below' B1.out)).mono ?_
  rintro e w2 ⟨a2, c2, rfl, hI2, h2⟩
  have HI2 := Lib.hid hI2
  have B2 := Lib.hid (B1.out.trans (h2.mono B1.out.size))
  clear h2 hI2
  go_wp2_with fail
  refine (laid_any a2 L.length c2 L (fun x hx => (HLM.out x hx).1) _ HI2.out (by omega) (by have := HFL.out; omega)).mono ?_
  rintro e w3 ⟨rfl, h3⟩
  have HI3 := Lib.hid (HI2.out.below' h3)
  have B3 := Lib.hid (B2.out.trans (h3.mono B2.out.size))
  clear h3
  obtain ⟨S0, eS0⟩ : ∃ S : ByteArray, S = ⟨(laid L).toArray⟩ := ⟨_, rfl⟩
  rw [← eS0]
  have hS0l : S0.data.toList = laid L := by rw [eS0]
  have HS0 := Lib.hid hS0l
  have hS0s : S0.size = laidLen L := by rw [← size_list, hS0l, laid_length]
  have HSZ := Lib.hid hS0s
  have hS0b : S0.size ≤ 50200 := by have := HFL.out; omega
  have hSi : (S0.size : Int) ≤ 50200 := by omega
  clear eS0 hS0l hS0s
  go_wp2_with fail
  refine (pick_any cut ((S0.size : Int) + 1) hc0 hc1 (by omega) (by omega) _).mono ?_
  rintro e w4 ⟨⟨r, hr0, hr1, rfl⟩, rfl⟩
  obtain ⟨N, rfl⟩ : ∃ N : Nat, r = (N : Int) := ⟨r.toNat, by omega⟩
  have hNi : (N : Int) ≤ (S0.size : Int) := by omega
  have hN : N ≤ S0.size := by omega
  clear hr0 hr1
  go_wp2_with fail
  refine (newReader_any (S0.extract 0 N) _).mono ?_
  rintro e w4 ⟨rfl, h4⟩
  obtain ⟨g, eg⟩ : ∃ g, g = w3.heap.size := ⟨_, rfl⟩
  have hgb : w.heap.size ≤ g := by rw [eg]; exact B3.out.size
  have R4 := Lib.hid (show Rd w4 g (S0.extract 0 N) false from by rw [h4, eg]; exact Blk.new w3 _ _)
  have B4 := Lib.hid (show Below g w3 w4 from by rw [h4, eg]; exact (Below.refl _ _).alloc (Nat.le_refl _) _)
  have hg3 := Lib.hid eg
  rw [← eg]
  clear h4 eg
  go_wp2_with fail
  go_loopw [9, 10] (fun v i wr => ∃ (k m : Nat) (b : Bool) (S : ByteArray), k ≤ L.length ∧ i = .int .i64 (k : Int) ∧ v = .int .i64 (m : Int) ∧ m ≤ 50200 ∧ Hid (m = laidLen (L.take k)) ∧ Rd wr g S b ∧ Hid (CutAt L N k b S) ∧ S.size ≤ 50200 ∧ Below g w3 wr) (fun _ i _ => L.length - (intOf i).toNat)
  case atStart =>
    refine ⟨0, 0, false, _, Nat.zero_le _, rfl, rfl, Nat.zero_le _, rfl, R4.out, ⟨rfl, fun _ => ?_, fun h => by cases h⟩, by simp; omega, B4.out⟩
    rw [tk_list, HS0.out]; rfl
  case round =>
    obtain ⟨k, m, b, S, hk, rfl, rfl, hm5, HM, hr, HCA, hS5, hbel⟩ := hrel
    have HR := Lib.hid hr
    have HB := Lib.hid hbel
    clear hr hbel
    have hS7 : S.size ≤ 140737488355328 := by omega
    have hS9 : S.size ≤ 9223372036854775807 := by omega
    by_cases hlt : k < L.length
    · obtain ⟨bk, off, X, rfl, eX, hXm, hbl, c0, c1, c2⟩ := HI3.out.at_ (wr := wr) (HB.out.mono (by rw [hg3.out]; exact Nat.le_refl _)) hlt
      obtain ⟨hXn, hXs⟩ := HLM.out X hXm
      obtain ⟨hsuc, hmax⟩ := laidLen_at L k hlt
      rw [← eX, ← HM.out] at hsuc
      have hXl : m + X.long ≤ 50200 := by have := HFL.out; omega
      have HSUC := Lib.hid hsuc
      have EX := Lib.hid eX
      have hXs9 : (X.s.size : Int) ≤ 1000 := by omega
      clear hsuc hmax eX hXm hbl c1
      rcases hXt : X.t with _ | _
      · rw [hXt] at c0
        have hlo : X.long = 8 := by unfold It.long; rw [hXt]; rfl
        have henc : enc X = be 8 X.n := by unfold enc; rw [hXt]; rfl
        have hm8 : (m : Int) + 8 ≤ 50200 := by omega
        have hst : ∃ b', rnB S b = b' ∧ b' = decide (N < m + 8) ∧ Hid (CutAt L N (k + 1) b' (rnS S)) ∧ (rnS S).size ≤ 50200 := by
          rcases b with _ | _
          · have hN' : N ≤ laidLen L := by have := HSZ.out; omega
            obtain ⟨q1, q2, q3⟩ := cut_rest HCA.out hN'
            rw [laid_drop L k hlt, ← EX.out, henc] at q2
            rw [← HM.out] at q1 q2 q3
            by_cases h8 : 8 ≤ N - m
            · have q4 := cut_whole S _ _ _ q2 (by rw [be_length]; exact h8)
              obtain ⟨e1, e2, e3⟩ := rn_at S X.n _ hXn q4 false
              exact ⟨false, e3, (decide_eq_false (by omega)).symm, cut_on (e := be 8 X.n) HCA.out hlt (by rw [← EX.out, henc]) (by rw [e2]; exact q4) hN', by unfold rnS; rw [if_pos (by omega), dr_size]; omega⟩
            · obtain ⟨e1, e2, e3⟩ := rn_no S (by omega) false
              refine ⟨true, e3, (decide_eq_true (by omega)).symm, ?_, by rw [e2]; exact Nat.zero_le _⟩
              show CutAt _ _ _ _ _
              rw [e2]; exact cut_off hlt (by rw [← EX.out, ← HM.out, hlo]; omega)
          · have hSe := HCA.out.2.2 rfl
            obtain ⟨e1, e2, e3⟩ := rn_no S (by rw [hSe]; decide) true
            have h3 := of_decide_eq_true HCA.out.1.symm
            refine ⟨true, e3, (decide_eq_true (by have := HM.out; omega)).symm, ?_, by rw [e2]; exact Nat.zero_le _⟩
            show CutAt _ _ _ _ _
            rw [e2]; exact cut_bad HCA.out hlt
        obtain ⟨b', e1, e2, HC', hle⟩ := hst
        have E1 := Lib.hid e1
        have HS8 := Lib.hid hlo
        clear e1 hXt hlo henc
        rcases b' with _ | _
        · have hd : decide (N < m + 8) = false := e2.symm
          have hdi : decide ((N : Int) < (m : Int) + 8) = false := by have := of_decide_eq_false hd; rw [decide_eq_false_iff_not]; omega
          clear e2 hd
          go_wp2_with fail
          refine (rnum_any g S b _ HR.out hS9).mono ?_
          rintro e w5 ⟨rfl, h5, o5⟩
          rw [E1.out] at h5
          have R5 := Lib.hid h5
          have B5 := Lib.hid (Only.below HB.out (Nat.le_of_lt (Blk.lt HR.out)) (Nat.le_refl _) o5)
          clear h5 o5 c0 c2
          go_wp2_with fail
          refine (bad_any g _ false _ R5.out).mono ?_
          rintro e w6 ⟨rfl, rfl⟩
          go_wp2_with fail
          go_roundw
          case rel => exact ⟨k + 1, m + 8, _, _, by omega, by go_num, by go_num, by omega, (by show _ = _; rw [HSUC.out, HS8.out]), R5.out, HC', hle, B5.out⟩
          case measure => simp [intOf]; omega
        · have hd : decide (N < m + 8) = true := e2.symm
          have hdi : decide ((N : Int) < (m : Int) + 8) = true := by have := of_decide_eq_true hd; rw [decide_eq_true_iff]; omega
          clear e2 hd
          go_wp2_with fail
          refine (rnum_any g S b _ HR.out hS9).mono ?_
          rintro e w5 ⟨rfl, h5, o5⟩
          rw [E1.out] at h5
          have R5 := Lib.hid h5
          have B5 := Lib.hid (Only.below HB.out (Nat.le_of_lt (Blk.lt HR.out)) (Nat.le_refl _) o5)
          clear h5 o5 c0 c2
          go_wp2_with fail
          refine (bad_any g _ true _ R5.out).mono ?_
          rintro e w6 ⟨rfl, rfl⟩
          go_wp2_with fail
          go_roundw
          case rel => exact ⟨k + 1, m + 8, _, _, by omega, by go_num, by go_num, by omega, (by show _ = _; rw [HSUC.out, HS8.out]), R5.out, HC', hle, B5.out⟩
          case measure => simp [intOf]; omega
      · rw [hXt] at c0
        have hlo : X.long = 4 + X.s.size := by unfold It.long; rw [hXt]; rfl
        have henc : enc X = be 4 X.s.size ++ X.s.data.toList := by unfold enc; rw [hXt]; rfl
        have hel : (be 4 X.s.size ++ X.s.data.toList).length = 4 + X.s.size := by rw [← henc, enc_length, hlo]
        have hm8 : (m : Int) + (4 + (X.s.size : Int)) ≤ 50200 := by omega
        have hst : ∃ b', rtB S 1000 b = b' ∧ b' = decide (N < m + (4 + X.s.size)) ∧ Hid (CutAt L N (k + 1) b' (rtS S 1000)) ∧ (rtS S 1000).size ≤ 50200 := by
          rcases b with _ | _
          · have hN' : N ≤ laidLen L := by have := HSZ.out; omega
            obtain ⟨q1, q2, q3⟩ := cut_rest HCA.out hN'
            rw [laid_drop L k hlt, ← EX.out, henc] at q2
            rw [← HM.out] at q1 q2 q3
            by_cases h8 : 4 + X.s.size ≤ N - m
            · have q4 := cut_whole S _ _ _ q2 (by rw [hel]; exact h8)
              obtain ⟨e1, e2, e3⟩ := rt_at S X.s _ 1000 (by omega) hXs9 q4 false
              exact ⟨false, e3, (decide_eq_false (by omega)).symm, cut_on (e := be 4 X.s.size ++ X.s.data.toList) HCA.out hlt (by rw [← EX.out, henc]) (by rw [e2]; exact q4) hN', Nat.le_trans (rtS_le S 1000) hS5⟩
            · obtain ⟨e1, e2, e3⟩ := rt_no S 1000 (cut_text S X.s _ _ 1000 (by omega) q2 q3 (by omega)) false
              refine ⟨true, e3, (decide_eq_true (by omega)).symm, ?_, by rw [e2]; exact Nat.zero_le _⟩
              show CutAt _ _ _ _ _
              rw [e2]; exact cut_off hlt (by rw [← EX.out, ← HM.out, hlo]; omega)
          · have hSe := HCA.out.2.2 rfl
            obtain ⟨e1, e2, e3⟩ := rt_no S 1000 (by rw [hSe]; intro h; exact absurd h.1 (by decide)) true
            have h3 := of_decide_eq_true HCA.out.1.symm
            refine ⟨true, e3, (decide_eq_true (by have := HM.out; omega)).symm, ?_, by rw [e2]; exact Nat.zero_le _⟩
            show CutAt _ _ _ _ _
            rw [e2]; exact cut_bad HCA.out hlt
        obtain ⟨b', e1, e2, HC', hle⟩ := hst
        have E1 := Lib.hid e1
        have HS8 := Lib.hid hlo
        clear e1 hXt hlo henc hel
        rcases b' with _ | _
        · have hd : decide (N < m + (4 + X.s.size)) = false := e2.symm
          have hdi : decide ((N : Int) < (m : Int) + (4 + (X.s.size : Int))) = false := by have := of_decide_eq_false hd; rw [decide_eq_false_iff_not]; omega
          clear e2 hd
          go_wp2_with fail
          refine (rtext_any g S b 1000 (by omega) (by omega) _ HR.out hS7).mono ?_
          rintro e w5 ⟨rfl, h5, o5⟩
          rw [E1.out] at h5
          have R5 := Lib.hid h5
          have B5 := Lib.hid (Only.below HB.out (Nat.le_of_lt (Blk.lt HR.out)) (Nat.le_refl _) o5)
          clear h5 o5 c0 c2
          go_wp2_with fail
          refine (bad_any g _ false _ R5.out).mono ?_
          rintro e w6 ⟨rfl, rfl⟩
          go_wp2_with fail
          go_roundw
          case rel => exact ⟨k + 1, m + (4 + X.s.size), _, _, by omega, by go_num, by go_num, by omega, (by show _ = _; rw [HSUC.out, HS8.out]), R5.out, HC', hle, B5.out⟩
          case measure => simp [intOf]; omega
        · have hd : decide (N < m + (4 + X.s.size)) = true := e2.symm
          have hdi : decide ((N : Int) < (m : Int) + (4 + (X.s.size : Int))) = true := by have := of_decide_eq_true hd; rw [decide_eq_true_iff]; omega
          clear e2 hd
          go_wp2_with fail
          refine (rtext_any g S b 1000 (by omega) (by omega) _ HR.out hS7).mono ?_
          rintro e w5 ⟨rfl, h5, o5⟩
          rw [E1.out] at h5
          have R5 := Lib.hid h5
          have B5 := Lib.hid (Only.below HB.out (Nat.le_of_lt (Blk.lt HR.out)) (Nat.le_refl _) o5)
          clear h5 o5 c0 c2
          go_wp2_with fail
          refine (bad_any g _ true _ R5.out).mono ?_
          rintro e w6 ⟨rfl, rfl⟩
          go_wp2_with fail
          go_roundw
          case rel => exact ⟨k + 1, m + (4 + X.s.size), _, _, by omega, by go_num, by go_num, by omega, (by show _ = _; rw [HSUC.out, HS8.out]), R5.out, HC', hle, B5.out⟩
          case measure => simp [intOf]; omega
    · have HK := Lib.hid (show k = L.length by omega)
      have hki : ¬ (k : Int) < (L.length : Int) := by omega
      have hst : (!b && decide (S.size = 0)) = decide (N = S0.size) := by
        have hm := HM.out
        have hsz := HSZ.out
        have hkl : laidLen (L.take k) = laidLen L := by rw [HK.out, List.take_length]
        rcases b with _ | _
        · obtain ⟨q1, q2, q3⟩ := cut_rest HCA.out (by omega)
          have e1 : S.size = 0 := by omega
          have e2 : N = S0.size := by omega
          rw [decide_eq_true e1, decide_eq_true e2]; rfl
        · have h3 := of_decide_eq_true HCA.out.1.symm
          have e2 : ¬ N = S0.size := by omega
          rw [decide_eq_false e2]; rfl
      have HST := Lib.hid hst
      clear hk hlt hst
      go_wp2_with fail
      refine (end_any g S b _ HR.out).mono ?_
      rintro e w5 ⟨rfl, rfl⟩
      rw [HST.out]
      by_cases hN0 : N = S0.size
      · have hd : decide (N = S0.size) = true := decide_eq_true hN0
        have hdi : ((N : Int) == (S0.size : Int)) = true := by rw [hN0]; simp
        rw [hd]
        clear hN0 hd
        go_wp2_with fail
        go_ret
        exact ⟨rfl, B3.out.trans (HB.out.mono hgb)⟩
      · have hd : decide (N = S0.size) = false := decide_eq_false hN0
        have hdi : ((N : Int) == (S0.size : Int)) = false := by rw [beq_eq_false_iff_ne]; omega
        rw [hd]
        clear hN0 hd
        go_wp2_with fail
        go_ret
        exact ⟨rfl, B3.out.trans (HB.out.mono hgb)⟩
end Go.Proofs.Ytecamidkcdaopaa.Sp
