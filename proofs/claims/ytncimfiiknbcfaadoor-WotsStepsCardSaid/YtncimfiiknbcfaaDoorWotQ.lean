/- The document's own answers for package wots: the encoding of a number, Step, Walk, secret. -/
import Derived.Test.YtncimfiiknbcfaaDoorWotPure
import Derived.Test.YtncimfiiknbcfaaDoorCodQn
import Derived.Test.YtncimfiiknbcfaaDoorShaTabs
namespace Go.Proofs.YtncimfiiknbcfaaDoor.Sp
open Go Go.RowKit

set_option maxHeartbeats 1000000 in
theorem qlaid_any (n : Int) (h0 : -9223372036854775808 ≤ n) (h1 : n ≤ 9223372036854775807) (w : World) :
    Calls Tryd.prog 33 #[.int .i64 n] w fun e w' => e = .returned (.string (numB n)) ∧ Below w.heap.size w w' := by
  obtain ⟨N, hN⟩ : ∃ N, encN n = N := ⟨_, rfl⟩
  have hNl : N < 18446744073709551616 := by rw [← hN]; exact encN_lt n
  obtain ⟨R, hR⟩ : ∃ R, numB n = R := ⟨_, rfl⟩
  have HR := Lib.hid (show R = ByteArray.empty ++ ⟨(be 8 N).toArray⟩ from by
    apply list_inj; rw [← hR, ← hN]; rfl)
  rw [hR]
  have HN := Lib.hid hN
  clear hR hN
  have num_ := fun (w2 : World) (hq : QW w2 w.heap.size .empty) => qwnum_any w.heap.size N .empty R hNl w2 hq (by decide) HR.out
  have Hnum := Lib.hid num_
  clear num_
  by_cases hn : n < 0
  · have hN0 : N = 0 := by rw [← HN.out, encN, if_pos (.inl hn)]
    subst hN0
    clear h0 h1
    go_enter Tryd.func33, Tryd.ntmps33
    go_wp2_with fail
    refine (qnewWriter_any w).mono ?_
    rintro e w2 ⟨rfl, h2⟩
    have Q2 := Lib.hid (show QW w2 w.heap.size .empty from by rw [h2]; exact Blk.new _ _ _)
    have B2 := Lib.hid (show Below w.heap.size w w2 from by rw [h2]; exact (Below.refl _ _).alloc (Nat.le_refl _) _)
    clear h2
    go_wp2_with fail
    refine (Hnum.out w2 Q2.out).mono ?_
    rintro e w3 ⟨rfl, h3, o3⟩
    have B3 := Lib.hid (Only.below B2.out B2.out.size (Nat.le_refl _) o3)
    have Q3 := Lib.hid h3
    clear h3 o3
    go_wp2_with fail
    refine (qbytes_any _ _ w3 Q3.out).mono ?_
    rintro e w4 ⟨rfl, rfl⟩
    go_wp2_with fail
    go_ret
    exact ⟨rfl, B3.out⟩
  · by_cases hb : 4294967296 < n
    · have hN0 : N = 0 := by rw [← HN.out, encN, if_pos (.inr hb)]
      subst hN0
      clear h0 h1
      go_enter Tryd.func33, Tryd.ntmps33
      go_wp2_with fail
      refine (qnewWriter_any w).mono ?_
      rintro e w2 ⟨rfl, h2⟩
      have Q2 := Lib.hid (show QW w2 w.heap.size .empty from by rw [h2]; exact Blk.new _ _ _)
      have B2 := Lib.hid (show Below w.heap.size w w2 from by rw [h2]; exact (Below.refl _ _).alloc (Nat.le_refl _) _)
      clear h2
      go_wp2_with fail
      refine (Hnum.out w2 Q2.out).mono ?_
      rintro e w3 ⟨rfl, h3, o3⟩
      have B3 := Lib.hid (Only.below B2.out B2.out.size (Nat.le_refl _) o3)
      have Q3 := Lib.hid h3
      clear h3 o3
      go_wp2_with fail
      refine (qbytes_any _ _ w3 Q3.out).mono ?_
      rintro e w4 ⟨rfl, rfl⟩
      go_wp2_with fail
      go_ret
      exact ⟨rfl, B3.out⟩
    · have hN0 : n = (N : Int) := by
        rw [← HN.out, encN, if_neg (by omega)]; omega
      subst hN0
      have hw : IntKind.u64.wrap (N : Int) = (N : Int) := by rw [IntKind.wrap_u64]; omega
      clear h0 h1
      go_enter Tryd.func33, Tryd.ntmps33
      go_wp2_with fail
      refine (qnewWriter_any w).mono ?_
      rintro e w2 ⟨rfl, h2⟩
      have Q2 := Lib.hid (show QW w2 w.heap.size .empty from by rw [h2]; exact Blk.new _ _ _)
      have B2 := Lib.hid (show Below w.heap.size w w2 from by rw [h2]; exact (Below.refl _ _).alloc (Nat.le_refl _) _)
      clear h2
      go_wp2_with fail
      refine (Hnum.out w2 Q2.out).mono ?_
      rintro e w3 ⟨rfl, h3, o3⟩
      have B3 := Lib.hid (Only.below B2.out B2.out.size (Nat.le_refl _) o3)
      have Q3 := Lib.hid h3
      clear h3 o3
      go_wp2_with fail
      refine (qbytes_any _ _ w3 Q3.out).mono ?_
      rintro e w4 ⟨rfl, rfl⟩
      go_wp2_with fail
      go_ret
      exact ⟨rfl, B3.out⟩

theorem len2_three (a b c : ByteArray) : len2 [a, b, c] 3 = 13 + a.size + b.size + c.size := by simp [len2]; omega

set_option maxHeartbeats 1000000 in
theorem qstep_any (c i : Int) (v : ByteArray) (hc : -9223372036854775808 ≤ c ∧ c ≤ 9223372036854775807) (hi : -9223372036854775808 ≤ i ∧ i ≤ 9223372036854775807) (hv : v.size ≤ 140737488351232) (w : World) (hT : Tabs w) :
    Calls Tryd.prog 21 #[.int .i64 c, .int .i64 i, .string v] w fun e w' => e = .returned (.string (stepB c i v)) ∧ Below w.heap.size w w' := by
  obtain ⟨C, hC⟩ : ∃ C, numB c = C := ⟨_, rfl⟩
  obtain ⟨I, hI⟩ : ∃ I, numB i = I := ⟨_, rfl⟩
  obtain ⟨R, hR⟩ : ∃ R : ByteArray, R = ⟨(sum (inB 2 [C, I, v])).toArray⟩ := ⟨_, rfl⟩
  have hRs : R.size = 32 := by rw [← size_list, hR]; exact sum_length _
  obtain ⟨Z, hZ⟩ : ∃ Z, stepB c i v = Z := ⟨_, rfl⟩
  have hx : R.extract 0 16 = Z := by
    apply list_inj
    rw [extract_list, List.drop_zero, hR, ← hZ, ← hC, ← hI]
    rfl
  have hRi : (16 : Int) ≤ (R.size : Int) := by omega
  have hlen : len2 [C, I, v] 3 ≤ 140737488351300 := by
    rw [len2_three, ← hC, ← hI, numB_size, numB_size]; omega
  have HL := Lib.hid hlen
  have HR := Lib.hid hR
  have HC := Lib.hid (qlaid_any c hc.1 hc.2)
  have HI := Lib.hid (qlaid_any i hi.1 hi.2)
  rw [hC] at HC
  rw [hI] at HI
  have HT := Lib.hid hT
  rw [hZ]
  clear hlen hC hI hR hT hZ hRs
  go_enter Tryd.func21, Tryd.ntmps21
  go_wp2_with fail
  refine (HC.out w).mono ?_
  rintro e w1 ⟨rfl, h1⟩
  have T1 := Lib.hid (HT.out.below h1)
  have B1 := Lib.hid h1
  clear h1
  go_wp2_with fail
  refine (HI.out w1).mono ?_
  rintro e w2 ⟨rfl, h2⟩
  have T2 := Lib.hid (T1.out.below h2)
  have B2 := Lib.hid (B1.out.trans (h2.mono B1.out.size))
  clear h2
  go_wp2_with fail
  refine (qtag_any 2 (by omega) w2.heap.size 3 3 [C, I, v] _ (strs_blk (Blk.new w2 9 _) rfl) (by omega) HL.out (T2.out.alloc _) R HR.out).mono ?_
  rintro e w3 ⟨rfl, h3⟩
  have B3 := Lib.hid ((B2.out.alloc B2.out.size (.cells #[.string C, .string I, .string v] 9)).trans (h3.mono (by have := B2.out.size; simp; omega)))
  clear h3
  go_wp2_with fail
  go_ret
  exact ⟨rfl, B3.out⟩

set_option maxHeartbeats 1000000 in
theorem qsecret_any (seed : ByteArray) (l c : Int) (hl : -9223372036854775808 ≤ l ∧ l ≤ 9223372036854775807) (hc : -9223372036854775808 ≤ c ∧ c ≤ 9223372036854775807) (hv : seed.size ≤ 140737488351232) (w : World) (hT : Tabs w) :
    Calls Tryd.prog 29 #[.string seed, .int .i64 l, .int .i64 c] w fun e w' => e = .returned (.string (secretB seed l c)) ∧ Below w.heap.size w w' := by
  obtain ⟨C, hC⟩ : ∃ C, numB l = C := ⟨_, rfl⟩
  obtain ⟨I, hI⟩ : ∃ I, numB c = I := ⟨_, rfl⟩
  obtain ⟨R, hR⟩ : ∃ R : ByteArray, R = ⟨(sum (inB 3 [seed, C, I])).toArray⟩ := ⟨_, rfl⟩
  have hRs : R.size = 32 := by rw [← size_list, hR]; exact sum_length _
  obtain ⟨Z, hZ⟩ : ∃ Z, secretB seed l c = Z := ⟨_, rfl⟩
  have hx : R.extract 0 16 = Z := by
    apply list_inj
    rw [extract_list, List.drop_zero, hR, ← hZ, ← hC, ← hI]
    rfl
  have hRi : (16 : Int) ≤ (R.size : Int) := by omega
  have hlen : len2 [seed, C, I] 3 ≤ 140737488351300 := by
    rw [len2_three, ← hC, ← hI, numB_size, numB_size]; omega
  have HL := Lib.hid hlen
  have HR := Lib.hid hR
  have HC := Lib.hid (qlaid_any l hl.1 hl.2)
  have HI := Lib.hid (qlaid_any c hc.1 hc.2)
  rw [hC] at HC
  rw [hI] at HI
  have HT := Lib.hid hT
  rw [hZ]
  clear hlen hC hI hR hT hZ hRs
  go_enter Tryd.func29, Tryd.ntmps29
  go_wp2_with fail
  refine (HC.out w).mono ?_
  rintro e w1 ⟨rfl, h1⟩
  have T1 := Lib.hid (HT.out.below h1)
  have B1 := Lib.hid h1
  clear h1
  go_wp2_with fail
  refine (HI.out w1).mono ?_
  rintro e w2 ⟨rfl, h2⟩
  have T2 := Lib.hid (T1.out.below h2)
  have B2 := Lib.hid (B1.out.trans (h2.mono B1.out.size))
  clear h2
  go_wp2_with fail
  refine (qtag_any 3 (by omega) w2.heap.size 3 3 [seed, C, I] _ (strs_blk (Blk.new w2 9 _) rfl) (by omega) HL.out (T2.out.alloc _) R HR.out).mono ?_
  rintro e w3 ⟨rfl, h3⟩
  have B3 := Lib.hid ((B2.out.alloc B2.out.size (.cells #[.string seed, .string C, .string I] 9)).trans (h3.mono (by have := B2.out.size; simp; omega)))
  clear h3
  go_wp2_with fail
  go_ret
  exact ⟨rfl, B3.out⟩

set_option maxHeartbeats 1000000 in
theorem qwalk_any (c i j : Int) (v : ByteArray) (hc : -9223372036854775808 ≤ c ∧ c ≤ 9223372036854775807) (hi : -9223372036854775808 ≤ i ∧ i ≤ 9223372036854775807) (hj : -9223372036854775808 ≤ j ∧ j ≤ 9223372036854775807) (hv : v.size ≤ 140737488351232) (w : World) (hT : Tabs w) :
    Calls Tryd.prog 23 #[.int .i64 c, .int .i64 i, .int .i64 j, .string v] w fun e w' => e = .returned (.string (walkB c i j v)) ∧ Below w.heap.size w w' := by
  have HT := Lib.hid hT
  obtain ⟨Z, hZ⟩ : ∃ Z, walkB c i j v = Z := ⟨_, rfl⟩
  have HZ := Lib.hid hZ
  rw [hZ]
  clear hT hZ
  by_cases h0 : i < 0
  · have hz := HZ.out
    rw [walkB, if_pos (.inl h0)] at hz
    subst hz
    go_enter Tryd.func23, Tryd.ntmps23
    go_wp2_with fail
    go_ret
    exact ⟨rfl, Below.refl _ _⟩
  · by_cases h15 : 15 < j
    · have hz := HZ.out
      rw [walkB, if_pos (.inr h15)] at hz
      subst hz
      go_enter Tryd.func23, Tryd.ntmps23
      go_wp2_with fail
      go_ret
      exact ⟨rfl, Below.refl _ _⟩
    · have hz := HZ.out
      rw [walkB, if_neg (by omega)] at hz
      have HZ2 := Lib.hid hz
      clear hz HZ
      go_enter Tryd.func23, Tryd.ntmps23
      go_wp2_with fail
      go_loopw [3, 9] (fun x y wr => ∃ n : Nat, (n : Int) ≤ 15 ∧ n ≤ (j - i).toNat ∧ y = .int .i64 (i + (n : Int)) ∧ x = .string (goB c i n v) ∧ Tabs wr ∧ Below w.heap.size w wr) (fun _ y _ => (j - intOf y).toNat)
      case atStart => exact ⟨0, by omega, Nat.zero_le _, by simp, rfl, HT.out, Below.refl _ _⟩
      case round =>
        obtain ⟨n, hn15, hn, rfl, rfl, ht, hb⟩ := hrel
        have HTr := Lib.hid ht
        have HB := Lib.hid hb
        clear ht hb
        obtain ⟨V, hV⟩ : ∃ V, goB c i n v = V := ⟨_, rfl⟩
        have hVs : V.size ≤ 140737488351232 := by rw [← hV]; exact goB_le c i n v _ hv (by omega)
        rw [hV]
        have HV := Lib.hid hV
        clear hV
        obtain ⟨k, hk⟩ : ∃ k : Int, i + (n : Int) = k := ⟨_, rfl⟩
        rw [hk]
        by_cases hlt : k < j
        · have HS := Lib.hid (qstep_any c k V hc (by omega) hVs)
          have hwk : IntKind.i64.wrap (k + 1) = k + 1 := by rw [IntKind.wrap_i64]; omega
          have hk1 : k + 1 = i + ((n + 1 : Nat) : Int) := by omega
          have HK := Lib.hid (And.intro hk hk1)
          have hn1 : n + 1 ≤ (j - i).toNat := by omega
          have hn2 : ((n + 1 : Nat) : Int) ≤ 15 := by omega
          clear hk hk1
          go_wp2_with fail
          refine (HS.out wr HTr.out).mono ?_
          rintro e w2 ⟨rfl, h2⟩
          have T2 := Lib.hid (HTr.out.below h2)
          have B2 := Lib.hid (HB.out.trans (h2.mono HB.out.size))
          clear h2
          go_wp2_with fail
          go_roundw
          case rel => exact ⟨n + 1, hn2, hn1, by rw [← HK.out.2], by rw [← HV.out, ← HK.out.1]; rfl, T2.out, B2.out⟩
          case measure => simp [intOf]; omega
        · have hnn : n = (j - i).toNat ∨ (j - i).toNat = 0 ∧ n = 0 := by omega
          have hVZ : V = Z := by
            rw [← HV.out, ← HZ2.out]
            congr 1
            omega
          subst hVZ
          clear hk hn hnn
          go_wp2_with fail
          go_ret
          exact ⟨rfl, HB.out⟩
end Go.Proofs.YtncimfiiknbcfaaDoor.Sp
