/- The walk of AmountDigits. -/
import Derived.Test.YtaebhecnekdcfaaDoorAmtAwake
import Derived.Test.YtaebhecnekdcfaaDoorAmtRef
import Derived.Deep.RegionLaw
import Derived.Deep.DeepCutAuto
namespace Go.Proofs.YtaebhecnekdcfaaDoor.Sp
open Go Go.RowKit

theorem blk_byte (c : UInt8) (W : World) : Blk (W.alloc (.cells #[Value.int .u8 (c.toNat : Int)] 5)) W.heap.size 5 (byteVs [c]).toArray := Blk.new _ _ _
theorem one_byte0 (c : UInt8) (W : World) :
    (convert 31 9 (.slice (some ⟨W.heap.size, 0, none⟩) 1 1)).run Tryd.prog (W.alloc (.cells #[Value.int .u8 (c.toNat : Int)] 5)) = .ok (.string ⟨[c].toArray⟩) (W.alloc (.cells #[Value.int .u8 (c.toNat : Int)] 5)) :=
  run_text_of_blk (blk_byte c W) rfl
theorem one_byte1 (c : UInt8) (W : World) :
    (convert 31 9 (.slice (some ⟨W.heap.size, 0, none⟩) 1 1)).run Tryd.prog (W.alloc (.cells #[Value.int .u8 (c.toNat : Int)] 5)).drew = .ok (.string ⟨[c].toArray⟩) (W.alloc (.cells #[Value.int .u8 (c.toNat : Int)] 5)).drew :=
  run_text_of_blk (blk_byte c W).drew rfl

/-- What a byte behind a decimal makes of it. -/
theorem form_snoc (a : Nat) (c : UInt8) (ha : 0 < a) : Form (dec a ++ [c]) ↔ isDig c := by
  obtain ⟨h1, h2, h3⟩ := dec_form a
  constructor
  · rintro ⟨_, h, _⟩; exact h c (by simp)
  · intro hc
    refine ⟨by simp, ?_, .inr ?_⟩
    · intro b hb
      rcases List.mem_append.1 hb with hb | hb
      · exact h2 b hb
      · rw [List.mem_singleton] at hb; subst hb; exact hc
    · rw [head_app _ _ h1]; exact dec_head a ha
theorem form_zero (c : UInt8) : ¬ Form (dec 0 ++ [c]) := by
  rintro ⟨_, _, h⟩
  rw [dec_lt 0 (by omega)] at h
  rcases h with h | h
  · simp at h
  · exact h rfl
theorem par_snoc (a : Nat) (c : UInt8) (ha : 0 < a) (hc : isDig c) :
    parN (dec a ++ [c]) = (if 10 * a + (c.toNat - 48) < 18446744073709551616 then 10 * a + (c.toNat - 48) else 0) ∧ parE (dec a ++ [c]) = (if 10 * a + (c.toNat - 48) < 18446744073709551616 then 0 else 31) := by
  have hf := (form_snoc a c ha).2 hc
  rw [parN, parE, if_pos hf, if_pos hf, valN, valE, dval_snoc, dval_dec]
  exact ⟨rfl, rfl⟩

set_option maxRecDepth 100000 in
set_option maxHeartbeats 4000000 in
theorem digits_law (a : Nat) (c : UInt8) (ha : a < 18446744073709551616) (w : World) (hT : Tens w) :
    Calls Tryd.prog 6 #[.int .u64 (a : Int), .int .u8 (c.toNat : Int)] w fun e w' => e = .returned (.bool true) ∧ Below w.heap.size w w' := by
  have HT := Lib.hid hT
  obtain ⟨X, eX⟩ : ∃ X : ByteArray, ⟨(dec a).toArray⟩ = X := ⟨_, rfl⟩
  obtain ⟨C, eC⟩ : ∃ C : ByteArray, ⟨[c].toArray⟩ = C := ⟨_, rfl⟩
  have HX := Lib.hid eX
  have lX : X.data.toList = dec a := by rw [← eX]
  have lC : C.data.toList = [c] := by rw [← eC]
  have lXC : (X ++ C).data.toList = dec a ++ [c] := by rw [Go.Joins.data_append, lX, lC]
  have hXs : X.size ≤ 20 := by rw [← size_list, lX]; exact (dec_len a 20 (by omega)).2 (Nat.lt_trans ha (by decide))
  have hCs : C.size = 1 := by rw [← size_list, lC]; rfl
  have hlen : ¬ 9223372036854775807 < X.size + C.size := by omega
  obtain ⟨Z, eZ⟩ : ∃ Z, X ++ C = Z := ⟨_, rfl⟩
  have HZs := Lib.hid (show Z.size ≤ 9223372036854775807 by rw [← eZ, ← size_list, lXC, List.length_append, ← lX, size_list]; simp; omega)
  obtain ⟨N, eN⟩ : ∃ N, parN Z.data.toList = N := ⟨_, rfl⟩
  obtain ⟨E, eE⟩ : ∃ E, parE Z.data.toList = E := ⟨_, rfl⟩
  have HP := Lib.hid (parse_at Z N E ⟨eN, eE⟩ HZs.out)
  have HZ := Lib.hid eZ
  rw [← eZ, lXC] at eN eE
  have HE := Lib.hid (And.intro eN eE)
  have hc0 := one_byte0 c
  have hc1 := one_byte1 c
  rw [eC] at hc0 hc1
  have HC := Lib.hid eC
  clear hT eX eC lX lC lXC eZ eN eE hXs hCs
  go_enter Tryd.func6, Tryd.ntmps6
  go_wp2_with fail
  refine (awake_any w HT.out).mono ?_
  rintro e w1 ⟨rfl, h1⟩
  have T1 := Lib.hid (tens_below HT.out h1)
  have B1 := Lib.hid h1
  clear h1
  go_wp2_with fail
  have hz := HZ.out
  go_region_law ((first
    | (go_simp; go_at_call 16; refine (print_at a X HX.out ha _ (by first | exact T1.out | exact tens_alloc T1.out _)).mono ?_; rintro e w2 ⟨rfl, hb2⟩; (try have hcx := run_text_of_blk (cap := 1) (n := 1) (l := [c]) (Blk.below (Blk.drew (blk_byte c w1)) hb2 (by simp)) rfl); (try rw [HC.out] at hcx))
    | (go_simp; go_at_call 10; refine (HP.out _).mono ?_; rintro e w3 ⟨rfl, rfl⟩)))
  all_goals
    clear hc0 hc1 hz
    have HBW := Lib.hid (show Below w.heap.size w w2 from by
      first
        | exact B1.out.trans (((Below.refl _ w1).drew.trans hb2).mono B1.out.size)
        | exact B1.out.trans (((((Below.refl w1.heap.size w1).alloc (Nat.le_refl _) _).drew).trans (hb2.mono (by simp))).mono B1.out.size)
        | exact B1.out.trans (((((Below.refl w1.heap.size w1).alloc (Nat.le_refl _) _).drew.drew).trans (hb2.mono (by simp))).mono B1.out.size))
    clear hb2
    try clear hcx
    by_cases hd : isDig c
    · rcases Nat.eq_zero_or_pos a with h0 | h0
      · have hB : N = 0 ∧ E = 30 := by
          rw [← HE.out.1, ← HE.out.2, h0, parN, parE, if_neg (form_zero c), if_neg (form_zero c)]; exact ⟨rfl, rfl⟩
        have h0i : (a : Int) = 0 := by omega
        unfold isDig at hd
        have hd1 : ¬ (c.toNat : Int) < 48 := by omega
        have hd2 : ¬ (57 : Int) < (c.toNat : Int) := by omega
        clear h0 hd ha
        obtain ⟨rfl, rfl⟩ := hB
        go_wp2_with fail
        go_ret
        first
          | exact ⟨rfl, HBW.out⟩
          | exact ⟨rfl, HBW.out.alloc HBW.out.size _⟩
          | exact ⟨rfl, (HBW.out.alloc HBW.out.size _).drew⟩
      · have hP := par_snoc a c h0 hd
        rw [HE.out.1, HE.out.2] at hP
        have h0i : ¬ (a : Int) = 0 := by omega
        unfold isDig at hd
        have hd1 : ¬ (c.toNat : Int) < 48 := by omega
        have hd2 : ¬ (57 : Int) < (c.toNat : Int) := by omega
        by_cases hM : 10 * a + (c.toNat - 48) < 18446744073709551616
        · rw [if_pos hM, if_pos hM] at hP
          obtain ⟨hN, rfl⟩ := hP
          obtain ⟨q, hq⟩ : ∃ q : Int, (18446744073709551615 - ((c.toNat : Int) - 48)) / 10 = q := ⟨_, rfl⟩
          obtain ⟨p, hp⟩ : ∃ p : Int, 10 * (a : Int) = p := ⟨_, rfl⟩
          obtain ⟨d, hd'⟩ : ∃ d : Int, (c.toNat : Int) - 48 = d := ⟨_, rfl⟩
          rw [hd'] at hq
          have hdd : decide (q < (a : Int)) = false := by rw [decide_eq_false_iff_not]; omega
          have hw1 : IntKind.u64.wrap (18446744073709551615 - d) = 18446744073709551615 - d := by rw [IntKind.wrap_u64]; omega
          have htd : (18446744073709551615 - d).tdiv 10 = q := by rw [Int.tdiv_eq_ediv_of_nonneg (by omega)]; exact hq
          have hw2 : IntKind.u64.wrap q = q := by rw [IntKind.wrap_u64]; omega
          have hw3 : IntKind.u64.wrap p = p := by rw [IntKind.wrap_u64]; omega
          have hw4 : IntKind.u64.wrap (p + d) = (N : Int) := by rw [IntKind.wrap_u64]; omega
          have hw5 : IntKind.u64.wrap d = d := by rw [IntKind.wrap_u64]; omega
          clear h0 hM hN hq
          go_upto_region 6 with (fail)
          clear ha hd hd1 hd2 hlen
          go_wp2_with fail
          go_ret
          first
            | exact ⟨rfl, HBW.out⟩
            | exact ⟨rfl, HBW.out.alloc HBW.out.size _⟩
            | exact ⟨rfl, (HBW.out.alloc HBW.out.size _).drew⟩
        · rw [if_neg hM, if_neg hM] at hP
          obtain ⟨rfl, rfl⟩ := hP
          obtain ⟨q, hq⟩ : ∃ q : Int, (18446744073709551615 - ((c.toNat : Int) - 48)) / 10 = q := ⟨_, rfl⟩
          have hov : q < (a : Int) := by omega
          clear h0 hM
          go_wp2_with fail
          go_ret
          first
            | exact ⟨rfl, HBW.out⟩
            | exact ⟨rfl, HBW.out.alloc HBW.out.size _⟩
            | exact ⟨rfl, (HBW.out.alloc HBW.out.size _).drew⟩
    · have hB : N = 0 ∧ E = 30 := by
        have hnf : ¬ Form (dec a ++ [c]) := fun h => hd (h.2.1 c (by simp))
        rw [← HE.out.1, ← HE.out.2, parN, parE, if_neg hnf, if_neg hnf]; exact ⟨rfl, rfl⟩
      unfold isDig at hd
      by_cases h1 : c.toNat < 48
      · have hd1 : (c.toNat : Int) < 48 := by omega
        clear hd h1
        obtain ⟨rfl, rfl⟩ := hB
        go_wp2_with fail
        go_ret
        first
          | exact ⟨rfl, HBW.out⟩
          | exact ⟨rfl, HBW.out.alloc HBW.out.size _⟩
          | exact ⟨rfl, (HBW.out.alloc HBW.out.size _).drew⟩
      · have hd1 : ¬ (c.toNat : Int) < 48 := by omega
        have hd2 : (57 : Int) < (c.toNat : Int) := by omega
        clear hd h1
        obtain ⟨rfl, rfl⟩ := hB
        go_wp2_with fail
        go_ret
        first
          | exact ⟨rfl, HBW.out⟩
          | exact ⟨rfl, HBW.out.alloc HBW.out.size _⟩
          | exact ⟨rfl, (HBW.out.alloc HBW.out.size _).drew⟩
end Go.Proofs.YtaebhecnekdcfaaDoor.Sp
