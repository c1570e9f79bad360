/- The walk of TreeMany. -/
import Derived.Test.YtdkjlijmejleoaaDoorTreRootsW
namespace Go.Proofs.YtdkjlijmejleoaaDoor.Sp
open Go Go.RowKit

theorem run_make_texts (c : Nat) (hc : c ≤ 1000) (u : World) : (Instr.makeSlice 22 (.int .i64 (c : Int)) (.int .i64 (c : Int))).run Tryd.prog u =
    .ok (.slice (some ⟨u.heap.size, 0, none⟩) c c) (u.alloc (.cells (madeCells #[.string .empty] c) 9)) := by
  obtain ⟨i0, hi, hz0, hz1, hz2⟩ := info_parts infoText
  have h := run_make (P := Tryd.prog) u 22 9 i0 (.string .empty) Tryd.underlying22 hi hz0 .i64 .i64 (c : Int) (c : Int) (by omega) (by omega) (by rw [hz2]; omega) (by omega)
  have e2 : ((c : Int)).toNat = c := by omega
  rw [e2] at h
  simpa [hz1, Value.cells] using h
theorem strs_made (c : Nat) (w : World) : Strs (w.alloc (.cells (madeCells #[.string .empty] c) 9)) (some ⟨w.heap.size, 0, none⟩) c (List.replicate c .empty) := by
  refine ⟨by simp, fun _ => ⟨w.heap.size, 0, rfl, fun j hj => ?_⟩⟩
  have h := (Blk.new w 9 (madeCells #[.string .empty] c)).cell (0 + j)
  rw [h]
  simp [madeCells, List.getD, hj, Nat.mod_one]
theorem strs_none (w : World) : Strs w none 0 [] := ⟨rfl, fun h => absurd h (by omega)⟩
/-- What 2^h empty leaves come to. -/
theorem many_may (h n : Nat) (i : Int) (h7 : h ≤ 7) (e : n = 2 ^ h) : (inputsB (List.replicate n .empty)).length = n - 1 ∧ ((rootB (List.replicate n .empty)).toList == (⟨#[]⟩ : ByteArray).toList) = decide (n = 1) ∧
    (decide (0 < (pathB (List.replicate n .empty) i).length)) = (decide (1 < n) && (decide (0 ≤ i) && decide (i < (n : Int)))) := by
  have hl : (List.replicate n ByteArray.empty).length = 2 ^ h := by simp [e]
  refine ⟨?_, ?_, ?_⟩
  · rw [inputs_pow _ h h7 hl, inputs_len h _ hl, e]
  · rw [root_pow _ h h7 hl]
    cases h with
    | zero =>
      subst e
      show ((ByteArray.empty).toList == (⟨#[]⟩ : ByteArray).toList) = _
      simp
    | succ h =>
      have h2 : n ≠ 1 := by
        have : 2 ^ (h + 1) = 2 * 2 ^ h := by rw [Nat.pow_succ, Nat.mul_comm]
        have : 0 < 2 ^ h := Nat.pow_pos (by omega)
        omega
      rw [decide_eq_false h2]
      refine text_ne _ _ (fun h3 => ?_)
      have h4 : ((upB (h + 1) (List.replicate n ByteArray.empty)).getD 0 .empty).size = 32 := by
        rw [up_succ]
        refine above_size (upB h (List.replicate n ByteArray.empty)) _ (getD_mem_ _ 0 ?_)
        have h5 := up_len (h + 1) _ hl
        rw [up_succ] at h5
        omega
      rw [h3] at h4
      exact absurd h4 (by decide)
  · unfold pathB
    have hm : mayN (List.replicate n ByteArray.empty).length := ⟨h, h7, hl⟩
    rw [show (List.replicate n ByteArray.empty).length = n from by simp] at *
    by_cases hi : 0 ≤ i ∧ i < (n : Int)
    · rw [if_pos ⟨hm, hi⟩, path_len, decide_eq_true hi.1, decide_eq_true hi.2, hl, hOf_pow]
      cases h with
      | zero => rfl
      | succ h =>
        have : 2 ^ (h + 1) = 2 * 2 ^ h := by rw [Nat.pow_succ, Nat.mul_comm]
        have : 0 < 2 ^ h := Nat.pow_pos (by omega)
        rw [decide_eq_true (by omega), decide_eq_true (by omega)]
        rfl
    · rw [if_neg (fun h => hi h.2)]
      have h6 : (decide (0 ≤ i) && decide (i < (n : Int))) = false := by
        rw [← Bool.decide_and]; exact decide_eq_false hi
      rw [h6, Bool.and_false]
      rfl
theorem many_not (n : Nat) (i : Int) (h : ¬ mayN n) : inputsB (List.replicate n .empty) = [] ∧ rootB (List.replicate n .empty) = .empty ∧ pathB (List.replicate n .empty) i = [] := by
  have hl : (List.replicate n ByteArray.empty).length = n := by simp
  refine ⟨?_, ?_, ?_⟩
  · unfold inputsB; rw [if_neg (by rw [hl]; exact h)]
  · unfold rootB; rw [if_neg (by rw [hl]; exact h)]
  · unfold pathB; rw [if_neg (by rw [hl]; exact fun h2 => h h2.1)]
theorem empty_small (n : Nat) : ∀ x ∈ List.replicate n ByteArray.empty, ∀ y ∈ List.replicate n ByteArray.empty, x.size + y.size ≤ TM := fun x hx y hy => by
  rw [List.eq_of_mem_replicate hx, List.eq_of_mem_replicate hy]; decide

set_option maxRecDepth 100000 in
set_option maxHeartbeats 8000000 in
theorem many_law (P : TreeP) (n0 i : Int) (hn0 : -9223372036854775808 ≤ n0 ∧ n0 ≤ 9223372036854775807) (hi : -9223372036854775808 ≤ i ∧ i ≤ 9223372036854775807) (x : ByteArray) (hxs : x.size ≤ 140737488355328) (w : World) (hT : Tab w) :
    Calls Tryd.prog 10 #[.int .i64 n0, .int .i64 i, .string x] w fun e w' => e = .returned (.bool true) ∧ Below w.heap.size w w' := by
  obtain ⟨q, hq, hpq⟩ := pick_any n0 301 (by omega) (by omega) hn0.1 hn0.2
  obtain ⟨L, hL⟩ : ∃ L, List.replicate q ByteArray.empty = L := ⟨_, rfl⟩
  have hsm : ∀ x ∈ L, ∀ y ∈ L, x.size + y.size ≤ TM := by rw [← hL]; exact empty_small q
  obtain ⟨R, hR⟩ : ∃ R, rootB L = R := ⟨_, rfl⟩
  obtain ⟨A, hA⟩ : ∃ A, pathB L i = A := ⟨_, rfl⟩
  obtain ⟨I, hI⟩ : ∃ I, inputsB L = I := ⟨_, rfl⟩
  obtain ⟨pl, hpl⟩ : ∃ k, A.length = k := ⟨_, rfl⟩
  obtain ⟨il, hil⟩ : ∃ k, I.length = k := ⟨_, rfl⟩
  have hmay : mayN q → il = q - 1 ∧ (R.toList == (⟨#[]⟩ : ByteArray).toList) = decide (q = 1) ∧ decide (0 < pl) = (decide (1 < q) && (decide (0 ≤ i) && decide (i < (q : Int)))) := fun ⟨h, h7, e⟩ => by
    have h1 := many_may h q i h7 e
    rw [hL, hI, hR, hA, hil, hpl] at h1
    exact h1
  have hnot : ¬ mayN q → il = 0 ∧ R = .empty ∧ pl = 0 := fun h => by
    obtain ⟨h1, h2, h3⟩ := many_not q i h
    rw [hL] at h1 h2 h3
    rw [hI] at h1
    rw [hR] at h2
    rw [hA] at h3
    exact ⟨by rw [← hil, h1]; rfl, h2, by rw [← hpl, h3]; rfl⟩
  have HQ := Lib.hid hpq
  have HRt := Lib.hid (fun a c w hs ht => P.root L a q c w (by omega) hsm hs ht)
  rw [hR] at HRt
  have HPt := Lib.hid (fun a c w hs ht => P.path L a q c i w (by omega) hi hsm hs ht)
  rw [hA] at HPt
  have HIn := Lib.hid (fun a c w hs ht => P.inputs L a q c w (by omega) hsm hs ht)
  rw [hI] at HIn
  have HCl := Lib.hid (fun w ht => P.climb x i [] none 0 0 w (by omega) hi hxs (fun y hy => by cases hy) (strs_none w) ht)
  have HCd := Lib.hid (fun w ht => P.climbed x i [] none 0 0 w (by omega) hi (fun y hy => by cases hy) (strs_none w) ht)
  rw [show climbI x i [] = x from rfl] at HCl
  rw [show climbedI x i [] = [] from rfl] at HCd
  have hself := text_self x
  have hmk := run_make_texts q (by omega)
  obtain ⟨B, hB⟩ : ∃ B, decide (mayN q) = B := ⟨_, rfl⟩
  have HBm := Lib.hid hB
  have Hmay := Lib.hid hmay
  have Hnot := Lib.hid hnot
  have HLe := Lib.hid hL
  have Hl := Lib.hid (And.intro hpl hil)
  have HT := Lib.hid hT
  clear hpq hL hsm hR hA hI hpl hil hmay hnot hB hT hi hn0
  go_enter Tryd.func10, Tryd.ntmps10
  go_wp2_with fail
  refine (awake_any P w HT.out).mono ?_
  rintro e w1 ⟨rfl, h1⟩
  have T1 := Lib.hid (tab_below HT.out h1)
  have B1 := Lib.hid h1
  clear h1
  go_wp2_with fail
  refine (HQ.out w1).mono ?_
  rintro e w2 ⟨rfl, rfl⟩
  go_upto_region 4 with fail
  have T2 := Lib.hid (tab_alloc T1.out (.cells (madeCells #[.string .empty] q) 9))
  have B2 := Lib.hid (B1.out.alloc B1.out.size (.cells (madeCells #[.string .empty] q) 9))
  have S2 := Lib.hid (show Strs (w1.alloc (.cells (madeCells #[.string .empty] q) 9)) (some ⟨w1.heap.size, 0, none⟩) q L from HLe.out ▸ strs_made q w1)
  clear hmk
  go_cut [9, 18, 19, 20, 21, 22, 23, 24, 25, 26, 27, 28, 29, 30, 31, 32, 33, 34, 35, 36, 37, 38, 39, 40, 41, 42, 43, 44, 45, 46, 47] (fun v9 _ _ _ _ _ _ _ _ _ _ _ _ _ _ _ _ _ _ _ _ _ _ _ _ _ _ _ _ _ _ wc => v9 = .bool B ∧ wc = w1.alloc (.cells (madeCells #[.string .empty] q) 9))
  case first =>
    by_cases hm : mayN q
    · have hBt : B = true := by rw [← HBm.out]; exact decide_eq_true hm
      subst hBt
      obtain ⟨h, h7, e⟩ := hm
      match h, h7 with
      | 0, _ =>
        have f0 : ((q : Int) == 1) = true := by rw [beq_iff_eq]; omega
        clear e
        go_wp2_with fail
        go_meet
        exact ⟨rfl, rfl⟩
      | 1, _ =>
        have f0 : ((q : Int) == 1) = false := by rw [beq_eq_false_iff_ne]; omega
        have f1 : ((q : Int) == 2) = true := by rw [beq_iff_eq]; omega
        clear e
        go_wp2_with fail
        go_meet
        exact ⟨rfl, rfl⟩
      | 2, _ =>
        have f0 : ((q : Int) == 1) = false := by rw [beq_eq_false_iff_ne]; omega
        have f1 : ((q : Int) == 2) = false := by rw [beq_eq_false_iff_ne]; omega
        have f2 : ((q : Int) == 4) = true := by rw [beq_iff_eq]; omega
        clear e
        go_wp2_with fail
        go_meet
        exact ⟨rfl, rfl⟩
      | 3, _ =>
        have f0 : ((q : Int) == 1) = false := by rw [beq_eq_false_iff_ne]; omega
        have f1 : ((q : Int) == 2) = false := by rw [beq_eq_false_iff_ne]; omega
        have f2 : ((q : Int) == 4) = false := by rw [beq_eq_false_iff_ne]; omega
        have f3 : ((q : Int) == 8) = true := by rw [beq_iff_eq]; omega
        clear e
        go_wp2_with fail
        go_meet
        exact ⟨rfl, rfl⟩
      | 4, _ =>
        have f0 : ((q : Int) == 1) = false := by rw [beq_eq_false_iff_ne]; omega
        have f1 : ((q : Int) == 2) = false := by rw [beq_eq_false_iff_ne]; omega
        have f2 : ((q : Int) == 4) = false := by rw [beq_eq_false_iff_ne]; omega
        have f3 : ((q : Int) == 8) = false := by rw [beq_eq_false_iff_ne]; omega
        have f4 : ((q : Int) == 16) = true := by rw [beq_iff_eq]; omega
        clear e
        go_wp2_with fail
        go_meet
        exact ⟨rfl, rfl⟩
      | 5, _ =>
        have f0 : ((q : Int) == 1) = false := by rw [beq_eq_false_iff_ne]; omega
        have f1 : ((q : Int) == 2) = false := by rw [beq_eq_false_iff_ne]; omega
        have f2 : ((q : Int) == 4) = false := by rw [beq_eq_false_iff_ne]; omega
        have f3 : ((q : Int) == 8) = false := by rw [beq_eq_false_iff_ne]; omega
        have f4 : ((q : Int) == 16) = false := by rw [beq_eq_false_iff_ne]; omega
        have f5 : ((q : Int) == 32) = true := by rw [beq_iff_eq]; omega
        clear e
        go_wp2_with fail
        go_meet
        exact ⟨rfl, rfl⟩
      | 6, _ =>
        have f0 : ((q : Int) == 1) = false := by rw [beq_eq_false_iff_ne]; omega
        have f1 : ((q : Int) == 2) = false := by rw [beq_eq_false_iff_ne]; omega
        have f2 : ((q : Int) == 4) = false := by rw [beq_eq_false_iff_ne]; omega
        have f3 : ((q : Int) == 8) = false := by rw [beq_eq_false_iff_ne]; omega
        have f4 : ((q : Int) == 16) = false := by rw [beq_eq_false_iff_ne]; omega
        have f5 : ((q : Int) == 32) = false := by rw [beq_eq_false_iff_ne]; omega
        have f6 : ((q : Int) == 64) = true := by rw [beq_iff_eq]; omega
        clear e
        go_wp2_with fail
        go_meet
        exact ⟨rfl, rfl⟩
      | 7, _ =>
        have f0 : ((q : Int) == 1) = false := by rw [beq_eq_false_iff_ne]; omega
        have f1 : ((q : Int) == 2) = false := by rw [beq_eq_false_iff_ne]; omega
        have f2 : ((q : Int) == 4) = false := by rw [beq_eq_false_iff_ne]; omega
        have f3 : ((q : Int) == 8) = false := by rw [beq_eq_false_iff_ne]; omega
        have f4 : ((q : Int) == 16) = false := by rw [beq_eq_false_iff_ne]; omega
        have f5 : ((q : Int) == 32) = false := by rw [beq_eq_false_iff_ne]; omega
        have f6 : ((q : Int) == 64) = false := by rw [beq_eq_false_iff_ne]; omega
        have f7 : ((q : Int) == 128) = true := by rw [beq_iff_eq]; omega
        clear e
        go_wp2_with fail
        go_meet
        exact ⟨rfl, rfl⟩
    · have hBf : B = false := by rw [← HBm.out]; exact decide_eq_false hm
      subst hBf
      have hne : ∀ h, h ≤ 7 → q ≠ 2 ^ h := fun h h7 e => hm ⟨h, h7, e⟩
      have f0 : ((q : Int) == 1) = false := by rw [beq_eq_false_iff_ne]; have := hne 0 (by omega); omega
      have f1 : ((q : Int) == 2) = false := by rw [beq_eq_false_iff_ne]; have := hne 1 (by omega); omega
      have f2 : ((q : Int) == 4) = false := by rw [beq_eq_false_iff_ne]; have := hne 2 (by omega); omega
      have f3 : ((q : Int) == 8) = false := by rw [beq_eq_false_iff_ne]; have := hne 3 (by omega); omega
      have f4 : ((q : Int) == 16) = false := by rw [beq_eq_false_iff_ne]; have := hne 4 (by omega); omega
      have f5 : ((q : Int) == 32) = false := by rw [beq_eq_false_iff_ne]; have := hne 5 (by omega); omega
      have f6 : ((q : Int) == 64) = false := by rw [beq_eq_false_iff_ne]; have := hne 6 (by omega); omega
      have f7 : ((q : Int) == 128) = false := by rw [beq_eq_false_iff_ne]; have := hne 7 (by omega); omega
      clear hm hne
      go_wp2_with fail
      go_meet
      exact ⟨rfl, rfl⟩
  case rest =>
    obtain ⟨rfl, rfl⟩ := hcut
    go_wp2_with fail
    refine (HRt.out _ _ _ S2.out T2.out).mono ?_
    rintro e w3 ⟨rfl, h3⟩
    have T3 := Lib.hid (tab_below T2.out h3)
    have S3 := Lib.hid (S2.out.below h3)
    have B3 := Lib.hid (B2.out.trans (h3.mono B2.out.size))
    clear h3
    go_wp2_with fail
    refine (HPt.out _ _ _ S3.out T3.out).mono ?_
    rintro e w4 ⟨a4, c4, rfl, _, h4, _⟩
    rw [Hl.out.1]
    have T4 := Lib.hid (tab_below T3.out h4)
    have S4 := Lib.hid (S3.out.below h4)
    have B4 := Lib.hid (B3.out.trans (h4.mono B3.out.size))
    clear h4
    go_wp2_with fail
    refine (HIn.out _ _ _ S4.out T4.out).mono ?_
    rintro e w5 ⟨a5, c5, rfl, _, h5, _⟩
    rw [Hl.out.2]
    have T5 := Lib.hid (tab_below T4.out h5)
    have B5 := Lib.hid (B4.out.trans (h5.mono B4.out.size))
    clear h5
    go_wp2_with fail
    refine (HCl.out w5 T5.out).mono ?_
    rintro e w6 ⟨rfl, h6⟩
    have T6 := Lib.hid (tab_below T5.out h6)
    have B6 := Lib.hid (B5.out.trans (h6.mono B5.out.size))
    clear h6
    go_wp2_with fail
    refine (HCd.out w6 T6.out).mono ?_
    rintro e w7 ⟨a7, c7, rfl, _, h7, _⟩
    have B7 := Lib.hid (B6.out.trans (h7.mono B6.out.size))
    clear h7
    cases B with
    | false =>
      obtain ⟨hi0, hr0, hp0⟩ := Hnot.out (of_decide_eq_false HBm.out)
      subst hi0; subst hr0; subst hp0
      go_wp2_with fail
      go_ret
      exact ⟨rfl, B7.out⟩
    | true =>
      obtain ⟨hi0, hr0, hp0⟩ := Hmay.out (of_decide_eq_true HBm.out)
      have hq1 : 1 ≤ q := by
        obtain ⟨h, _, e⟩ := of_decide_eq_true HBm.out
        rw [e]; exact Nat.pow_pos (by omega)
      obtain ⟨m, hm⟩ : ∃ m, q - 1 = m := ⟨_, rfl⟩
      obtain rfl : il = m := by omega
      have hqm : (q : Int) - 1 = (il : Int) := by omega
      have hqw : IntKind.i64.wrap (il : Int) = (il : Int) := by rw [IntKind.wrap_i64]; omega
      by_cases hq1e : q = 1
      · have g1 : ((q : Int) == 1) = true := by rw [beq_iff_eq]; omega
        have g2 : ¬ (1 : Int) < (q : Int) := by omega
        rw [decide_eq_true hq1e] at hr0
        rw [decide_eq_false (by omega : ¬ 1 < q), Bool.false_and] at hp0
        obtain rfl : pl = 0 := by have := of_decide_eq_false hp0; omega
        have hr1 : R.toList.isEmpty = true := by rw [beq_iff_eq] at hr0; rw [hr0]; simp
        clear hq1e hm hq1 hi0 hp0
        go_wp2_with fail
        go_ret
        exact ⟨rfl, B7.out⟩
      · have g1 : ((q : Int) == 1) = false := by rw [beq_eq_false_iff_ne]; omega
        have g2 : (1 : Int) < (q : Int) := by omega
        rw [decide_eq_false hq1e] at hr0
        rw [decide_eq_true (by omega : 1 < q), Bool.true_and] at hp0
        have hr1 : R.toList.isEmpty = false := by
          rw [beq_eq_false_iff_ne] at hr0
          rw [Bool.eq_false_iff]; intro h
          exact hr0 (by rw [List.isEmpty_iff] at h; rw [h]; simp)
        clear hq1e hm hq1 hi0
        by_cases hi1 : 0 ≤ i
        · by_cases hi2 : i < (q : Int)
          · rw [decide_eq_true hi1, decide_eq_true hi2, Bool.and_true] at hp0
            have HP0 := Lib.hid hp0
            clear hp0
            go_wp2_with fail
            go_ret
            exact ⟨by show Ending.returned (.bool (decide (0 < pl))) = _; rw [HP0.out], B7.out⟩
          · rw [decide_eq_true hi1, decide_eq_false hi2, Bool.and_false] at hp0
            obtain rfl : pl = 0 := by have := of_decide_eq_false hp0; omega
            have HI2 := Lib.hid hi2
            clear hp0
            go_wp2_with fail
            go_ret
            exact ⟨by show Ending.returned (.bool (!decide (i < (q : Int)))) = _; rw [decide_eq_false (by have := HI2.out; omega)]; rfl, B7.out⟩
        · rw [decide_eq_false hi1, Bool.false_and] at hp0
          obtain rfl : pl = 0 := by have := of_decide_eq_false hp0; omega
          clear hp0
          go_wp2_with fail
          go_ret
          exact ⟨rfl, B7.out⟩
end Go.Proofs.YtdkjlijmejleoaaDoor.Sp
