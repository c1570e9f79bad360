/- The document's own answers for package wots: the encoding of a number, Step, Walk, secret. -/
import Derived.Test.YtnbaoihamjdjdaaGreatDoorWotA
import Derived.Test.YtnbaoihamjdjdaaGreatDoorCodQn
import Derived.Test.YtnbaoihamjdjdaaGreatDoorShaTabs
import Derived.Test.YtnbaoihamjdjdaaGreatDoorReads
import Derived.Deep.AppendLies
import Derived.Test.YtnbaoihamjdjdaaGreatDoorTreB
namespace Go.Proofs.YtnbaoihamjdjdaaGreatDoor.Sp
open Go Go.RowKit

set_option maxHeartbeats 1000000 in
theorem qlaid_any (n : Int) (h0 : -9223372036854775808 ≤ n) (h1 : n ≤ 9223372036854775807) (w : World) :
    Calls Tryz.prog 79 #[.int .i64 n] w fun e w' => e = .returned (.string (numB n)) ∧ Below w.heap.size w w' := by
  obtain ⟨N, hN⟩ : ∃ N, encN n = N := ⟨_, rfl⟩
  have hNl : N < 18446744073709551616 := by rw [← hN]; exact encN_lt n
  obtain ⟨R, hR⟩ : ∃ R, numB n = R := ⟨_, rfl⟩
  have HR := Lib.hid (show R = ByteArray.empty ++ ⟨(be 8 N).toArray⟩ from by
    apply list_inj; rw [← hR, ← hN]; rfl)
  rw [hR]
  have HN := Lib.hid hN
  clear hR hN
  have num_ := fun (w2 : World) (hq : QW w2 w.heap.size .empty) => qwnum_any w.heap.size N .empty R hNl w2 hq (by decide) HR.out
  have Hnum := Lib.hid num_
  clear num_
  by_cases hn : n < 0
  · have hN0 : N = 0 := by rw [← HN.out, encN, if_pos (.inl hn)]
    subst hN0
    clear h0 h1
    go_enter Tryz.func79, Tryz.ntmps79
    go_wp2_with fail
    refine (qnewWriter_any w).mono ?_
    rintro e w2 ⟨rfl, h2⟩
    have Q2 := Lib.hid (show QW w2 w.heap.size .empty from by rw [h2]; exact Blk.new _ _ _)
    have B2 := Lib.hid (show Below w.heap.size w w2 from by rw [h2]; exact (Below.refl _ _).alloc (Nat.le_refl _) _)
    clear h2
    go_wp2_with fail
    refine (Hnum.out w2 Q2.out).mono ?_
    rintro e w3 ⟨rfl, h3, o3⟩
    have B3 := Lib.hid (Only.below B2.out B2.out.size (Nat.le_refl _) o3)
    have Q3 := Lib.hid h3
    clear h3 o3
    go_wp2_with fail
    refine (qbytes_any _ _ w3 Q3.out).mono ?_
    rintro e w4 ⟨rfl, rfl⟩
    go_wp2_with fail
    go_ret
    exact ⟨rfl, B3.out⟩
  · by_cases hb : 4294967296 < n
    · have hN0 : N = 0 := by rw [← HN.out, encN, if_pos (.inr hb)]
      subst hN0
      clear h0 h1
      go_enter Tryz.func79, Tryz.ntmps79
      go_wp2_with fail
      refine (qnewWriter_any w).mono ?_
      rintro e w2 ⟨rfl, h2⟩
      have Q2 := Lib.hid (show QW w2 w.heap.size .empty from by rw [h2]; exact Blk.new _ _ _)
      have B2 := Lib.hid (show Below w.heap.size w w2 from by rw [h2]; exact (Below.refl _ _).alloc (Nat.le_refl _) _)
      clear h2
      go_wp2_with fail
      refine (Hnum.out w2 Q2.out).mono ?_
      rintro e w3 ⟨rfl, h3, o3⟩
      have B3 := Lib.hid (Only.below B2.out B2.out.size (Nat.le_refl _) o3)
      have Q3 := Lib.hid h3
      clear h3 o3
      go_wp2_with fail
      refine (qbytes_any _ _ w3 Q3.out).mono ?_
      rintro e w4 ⟨rfl, rfl⟩
      go_wp2_with fail
      go_ret
      exact ⟨rfl, B3.out⟩
    · have hN0 : n = (N : Int) := by
        rw [← HN.out, encN, if_neg (by omega)]; omega
      subst hN0
      have hw : IntKind.u64.wrap (N : Int) = (N : Int) := by rw [IntKind.wrap_u64]; omega
      clear h0 h1
      go_enter Tryz.func79, Tryz.ntmps79
      go_wp2_with fail
      refine (qnewWriter_any w).mono ?_
      rintro e w2 ⟨rfl, h2⟩
      have Q2 := Lib.hid (show QW w2 w.heap.size .empty from by rw [h2]; exact Blk.new _ _ _)
      have B2 := Lib.hid (show Below w.heap.size w w2 from by rw [h2]; exact (Below.refl _ _).alloc (Nat.le_refl _) _)
      clear h2
      go_wp2_with fail
      refine (Hnum.out w2 Q2.out).mono ?_
      rintro e w3 ⟨rfl, h3, o3⟩
      have B3 := Lib.hid (Only.below B2.out B2.out.size (Nat.le_refl _) o3)
      have Q3 := Lib.hid h3
      clear h3 o3
      go_wp2_with fail
      refine (qbytes_any _ _ w3 Q3.out).mono ?_
      rintro e w4 ⟨rfl, rfl⟩
      go_wp2_with fail
      go_ret
      exact ⟨rfl, B3.out⟩

theorem len2_three (a b c : ByteArray) : len2 [a, b, c] 3 = 13 + a.size + b.size + c.size := by simp [len2]; omega

set_option maxHeartbeats 1000000 in
theorem qstep_any (c i : Int) (v : ByteArray) (hc : -9223372036854775808 ≤ c ∧ c ≤ 9223372036854775807) (hi : -9223372036854775808 ≤ i ∧ i ≤ 9223372036854775807) (hv : v.size ≤ 140737488351232) (w : World) (hT : Tabs w) :
    Calls Tryz.prog 78 #[.int .i64 c, .int .i64 i, .string v] w fun e w' => e = .returned (.string (stepB c i v)) ∧ Below w.heap.size w w' := by
  obtain ⟨C, hC⟩ : ∃ C, numB c = C := ⟨_, rfl⟩
  obtain ⟨I, hI⟩ : ∃ I, numB i = I := ⟨_, rfl⟩
  obtain ⟨R, hR⟩ : ∃ R : ByteArray, R = ⟨(sum (inB 2 [C, I, v])).toArray⟩ := ⟨_, rfl⟩
  have hRs : R.size = 32 := by rw [← size_list, hR]; exact sum_length _
  obtain ⟨Z, hZ⟩ : ∃ Z, stepB c i v = Z := ⟨_, rfl⟩
  have hx : R.extract 0 16 = Z := by
    apply list_inj
    rw [extract_list, List.drop_zero, hR, ← hZ, ← hC, ← hI]
    rfl
  have hRi : (16 : Int) ≤ (R.size : Int) := by omega
  have hlen : len2 [C, I, v] 3 ≤ 281474976710656 := by
    rw [len2_three, ← hC, ← hI, numB_size, numB_size]; omega
  have HL := Lib.hid hlen
  have HR := Lib.hid hR
  have HC := Lib.hid (qlaid_any c hc.1 hc.2)
  have HI := Lib.hid (qlaid_any i hi.1 hi.2)
  rw [hC] at HC
  rw [hI] at HI
  have HT := Lib.hid hT
  rw [hZ]
  clear hlen hC hI hR hT hZ hRs
  go_enter Tryz.func78, Tryz.ntmps78
  go_wp2_with fail
  refine (HC.out w).mono ?_
  rintro e w1 ⟨rfl, h1⟩
  have T1 := Lib.hid (HT.out.below h1)
  have B1 := Lib.hid h1
  clear h1
  go_wp2_with fail
  refine (HI.out w1).mono ?_
  rintro e w2 ⟨rfl, h2⟩
  have T2 := Lib.hid (T1.out.below h2)
  have B2 := Lib.hid (B1.out.trans (h2.mono B1.out.size))
  clear h2
  go_wp2_with fail
  refine (qtag_any 2 (by omega) w2.heap.size 3 3 [C, I, v] _ (strs_blk (Blk.new w2 9 _) rfl) (by omega) HL.out (T2.out.alloc _) R HR.out).mono ?_
  rintro e w3 ⟨rfl, h3⟩
  have B3 := Lib.hid ((B2.out.alloc B2.out.size (.cells #[.string C, .string I, .string v] 9)).trans (h3.mono (by have := B2.out.size; simp; omega)))
  clear h3
  go_wp2_with fail
  go_ret
  exact ⟨rfl, B3.out⟩

set_option maxHeartbeats 1000000 in
theorem qsecret_any (seed : ByteArray) (l c : Int) (hl : -9223372036854775808 ≤ l ∧ l ≤ 9223372036854775807) (hc : -9223372036854775808 ≤ c ∧ c ≤ 9223372036854775807) (hv : seed.size ≤ 140737488351232) (w : World) (hT : Tabs w) :
    Calls Tryz.prog 53 #[.string seed, .int .i64 l, .int .i64 c] w fun e w' => e = .returned (.string (secretB seed l c)) ∧ Below w.heap.size w w' := by
  obtain ⟨C, hC⟩ : ∃ C, numB l = C := ⟨_, rfl⟩
  obtain ⟨I, hI⟩ : ∃ I, numB c = I := ⟨_, rfl⟩
  obtain ⟨R, hR⟩ : ∃ R : ByteArray, R = ⟨(sum (inB 3 [seed, C, I])).toArray⟩ := ⟨_, rfl⟩
  have hRs : R.size = 32 := by rw [← size_list, hR]; exact sum_length _
  obtain ⟨Z, hZ⟩ : ∃ Z, secretB seed l c = Z := ⟨_, rfl⟩
  have hx : R.extract 0 16 = Z := by
    apply list_inj
    rw [extract_list, List.drop_zero, hR, ← hZ, ← hC, ← hI]
    rfl
  have hRi : (16 : Int) ≤ (R.size : Int) := by omega
  have hlen : len2 [seed, C, I] 3 ≤ 281474976710656 := by
    rw [len2_three, ← hC, ← hI, numB_size, numB_size]; omega
  have HL := Lib.hid hlen
  have HR := Lib.hid hR
  have HC := Lib.hid (qlaid_any l hl.1 hl.2)
  have HI := Lib.hid (qlaid_any c hc.1 hc.2)
  rw [hC] at HC
  rw [hI] at HI
  have HT := Lib.hid hT
  rw [hZ]
  clear hlen hC hI hR hT hZ hRs
  go_enter Tryz.func53, Tryz.ntmps53
  go_wp2_with fail
  refine (HC.out w).mono ?_
  rintro e w1 ⟨rfl, h1⟩
  have T1 := Lib.hid (HT.out.below h1)
  have B1 := Lib.hid h1
  clear h1
  go_wp2_with fail
  refine (HI.out w1).mono ?_
  rintro e w2 ⟨rfl, h2⟩
  have T2 := Lib.hid (T1.out.below h2)
  have B2 := Lib.hid (B1.out.trans (h2.mono B1.out.size))
  clear h2
  go_wp2_with fail
  refine (qtag_any 3 (by omega) w2.heap.size 3 3 [seed, C, I] _ (strs_blk (Blk.new w2 9 _) rfl) (by omega) HL.out (T2.out.alloc _) R HR.out).mono ?_
  rintro e w3 ⟨rfl, h3⟩
  have B3 := Lib.hid ((B2.out.alloc B2.out.size (.cells #[.string seed, .string C, .string I] 9)).trans (h3.mono (by have := B2.out.size; simp; omega)))
  clear h3
  go_wp2_with fail
  go_ret
  exact ⟨rfl, B3.out⟩

set_option maxHeartbeats 1000000 in
theorem qwalk_any (c i j : Int) (v : ByteArray) (hc : -9223372036854775808 ≤ c ∧ c ≤ 9223372036854775807) (hi : -9223372036854775808 ≤ i ∧ i ≤ 9223372036854775807) (hj : -9223372036854775808 ≤ j ∧ j ≤ 9223372036854775807) (hv : v.size ≤ 140737488351232) (w : World) (hT : Tabs w) :
    Calls Tryz.prog 52 #[.int .i64 c, .int .i64 i, .int .i64 j, .string v] w fun e w' => e = .returned (.string (walkB c i j v)) ∧ Below w.heap.size w w' := by
  have HT := Lib.hid hT
  obtain ⟨Z, hZ⟩ : ∃ Z, walkB c i j v = Z := ⟨_, rfl⟩
  have HZ := Lib.hid hZ
  rw [hZ]
  clear hT hZ
  by_cases h0 : i < 0
  · have hz := HZ.out
    rw [walkB, if_pos (.inl h0)] at hz
    subst hz
    go_enter Tryz.func52, Tryz.ntmps52
    go_wp2_with fail
    go_ret
    exact ⟨rfl, Below.refl _ _⟩
  · by_cases h15 : 15 < j
    · have hz := HZ.out
      rw [walkB, if_pos (.inr h15)] at hz
      subst hz
      go_enter Tryz.func52, Tryz.ntmps52
      go_wp2_with fail
      go_ret
      exact ⟨rfl, Below.refl _ _⟩
    · have hz := HZ.out
      rw [walkB, if_neg (by omega)] at hz
      have HZ2 := Lib.hid hz
      clear hz HZ
      go_enter Tryz.func52, Tryz.ntmps52
      go_wp2_with fail
      go_loopw [3, 9] (fun x y wr => ∃ n : Nat, (n : Int) ≤ 15 ∧ n ≤ (j - i).toNat ∧ y = .int .i64 (i + (n : Int)) ∧ x = .string (goB c i n v) ∧ Tabs wr ∧ Below w.heap.size w wr) (fun _ y _ => (j - intOf y).toNat)
      case atStart => exact ⟨0, by omega, Nat.zero_le _, by simp, rfl, HT.out, Below.refl _ _⟩
      case round =>
        obtain ⟨n, hn15, hn, rfl, rfl, ht, hb⟩ := hrel
        have HTr := Lib.hid ht
        have HB := Lib.hid hb
        clear ht hb
        obtain ⟨V, hV⟩ : ∃ V, goB c i n v = V := ⟨_, rfl⟩
        have hVs : V.size ≤ 140737488351232 := by rw [← hV]; exact goB_le c i n v _ hv (by omega)
        rw [hV]
        have HV := Lib.hid hV
        clear hV
        obtain ⟨k, hk⟩ : ∃ k : Int, i + (n : Int) = k := ⟨_, rfl⟩
        rw [hk]
        by_cases hlt : k < j
        · have HS := Lib.hid (qstep_any c k V hc (by omega) hVs)
          have hwk : IntKind.i64.wrap (k + 1) = k + 1 := by rw [IntKind.wrap_i64]; omega
          have hk1 : k + 1 = i + ((n + 1 : Nat) : Int) := by omega
          have HK := Lib.hid (And.intro hk hk1)
          have hn1 : n + 1 ≤ (j - i).toNat := by omega
          have hn2 : ((n + 1 : Nat) : Int) ≤ 15 := by omega
          clear hk hk1
          go_wp2_with fail
          refine (HS.out wr HTr.out).mono ?_
          rintro e w2 ⟨rfl, h2⟩
          have T2 := Lib.hid (HTr.out.below h2)
          have B2 := Lib.hid (HB.out.trans (h2.mono HB.out.size))
          clear h2
          go_wp2_with fail
          go_roundw
          case rel => exact ⟨n + 1, hn2, hn1, by rw [← HK.out.2], by rw [← HV.out, ← HK.out.1]; rfl, T2.out, B2.out⟩
          case measure => simp [intOf]; omega
        · have hnn : n = (j - i).toNat ∨ (j - i).toNat = 0 ∧ n = 0 := by omega
          have hVZ : V = Z := by
            rw [← HV.out, ← HZ2.out]
            congr 1
            omega
          subst hVZ
          clear hk hn hnn
          go_wp2_with fail
          go_ret
          exact ⟨rfl, HB.out⟩
end Go.Proofs.YtnbaoihamjdjdaaGreatDoor.Sp

/- The document's own digits of a message. -/
namespace Go.Proofs.YtnbaoihamjdjdaaGreatDoor.Sp
open Go Go.RowKit
set_option maxRecDepth 100000

set_option maxHeartbeats 2000000 in
theorem qdigits_any (msg : ByteArray) (hm : msg.size ≤ 140737488351232) (w : World) (hT : Tabs w) :
    Calls Tryz.prog 63 #[.string msg] w (DigTo msg w) := by
  obtain ⟨R, hR⟩ : ∃ R : ByteArray, R = ⟨(sum (inB 1 [msg])).toArray⟩ := ⟨_, rfl⟩
  have hRs : R.size = 32 := by rw [← size_list, hR]; exact sum_length _
  have HRl := Lib.hid (show R.data.toList = sum (inB 1 [msg]) from by rw [hR])
  have HL := Lib.hid (show len2 [msg] 1 ≤ 281474976710656 by simp [len2]; omega)
  have HR := Lib.hid hR
  have HT := Lib.hid hT
  clear hR hT hm
  go_enter Tryz.func63, Tryz.ntmps63
  go_wp2_with fail
  refine (qtag_any 1 (by omega) w.heap.size 1 1 [msg] _ (strs_blk (Blk.new w 9 _) rfl) (by omega) HL.out (HT.out.alloc _) R HR.out).mono ?_
  rintro e w1 ⟨rfl, h1⟩
  have B1 := Lib.hid (((Below.refl _ _).alloc (Nat.le_refl _) (.cells #[.string msg] 9)).trans (h1.mono (by simp)))
  clear h1 HT HL HR
  go_wp2_with fail
  go_loopw [4, 5, 6] (fun x y z wr => ∃ k : Nat, k ≤ 4 ∧ z = .int .i64 (k : Int) ∧ y = .int .i64 ((lacks (hexOf (R.data.toList.take k)) : Nat) : Int) ∧ OwnN wr w.heap.size x (hexOf (R.data.toList.take k)) ∧ Below w.heap.size w wr) (fun _ _ z _ => 4 - (intOf z).toNat)
  case atStart => exact ⟨0, by omega, rfl, rfl, World.ownsRow_nil _ _ _ _, B1.out⟩
  case round =>
    obtain ⟨k, hk, rfl, rfl, hown, hbel⟩ := hrel
    have HO := Lib.hid hown
    have HB := Lib.hid hbel
    have hbz := hbel.size
    clear hown hbel
    obtain ⟨L, hL⟩ : ∃ L, lacks (hexOf (R.data.toList.take k)) = L := ⟨_, rfl⟩
    rw [hL]
    have hLm : L ≤ 120 := by
      have h1 := lacks_le (hexOf (R.data.toList.take k))
      rw [hexOf_length, List.length_take, hL] at h1
      omega
    by_cases hlt : k < 4
    · have hki : (k : Int) < 4 := by omega
      have hk0 : (0 : Int) ≤ (k : Int) := by omega
      have hkR : (k : Int) < (R.size : Int) := by omega
      have hkn : k < R.size := by omega
      obtain ⟨b, hb⟩ : ∃ b, R[k].toNat = b := ⟨_, rfl⟩
      have hb256 : b < 256 := by rw [← hb]; exact R[k].toNat_lt
      obtain ⟨p, hp⟩ : ∃ p, b / 16 = p := ⟨_, rfl⟩
      obtain ⟨q, hq⟩ : ∃ q, b % 16 = q := ⟨_, rfl⟩
      have hp15 : p ≤ 15 := by omega
      have hq15 : q ≤ 15 := by omega
      have hnext := Lib.hid (show hexOf (R.data.toList.take (k + 1)) = hexOf (R.data.toList.take k) ++ [p, q] from by
        rw [show R.data.toList.take (k + 1) = R.data.toList.take k ++ [R[k]] from by rw [List.take_succ_eq_append_getElem (by rw [size_list]; omega)]; rfl, hexOf_snoc, hb, hp, hq])
      have hd : ((R[k].toNat : Int)) / 16 = (p : Int) := by rw [hb]; omega
      have hm : ((R[k].toNat : Int)) % 16 = (q : Int) := by rw [hb]; omega
      have hL2 := Lib.hid (show lacks (hexOf (R.data.toList.take (k + 1))) = L + (15 - p) + (15 - q) from by rw [hnext.out, lacks_app, hL]; simp [lacks]; omega)
      have hln := Lib.hid (show (hexOf (R.data.toList.take k)).length = 2 * k from by rw [hexOf_length, List.length_take, size_list]; omega)
      obtain ⟨Xs, eXs⟩ : ∃ Xs : List Value, (hexOf (R.data.toList.take k)).map intV = Xs := ⟨_, rfl⟩
      have HOk := Lib.hid (show wr.ownsRow w.heap.size 3 1 u4 (2 * k) Xs from by have := HO.out; unfold OwnN at this; rw [hln.out, eXs] at this; exact this)
      have EXs := Lib.hid eXs
      clear hL hlt hb hp hq eXs hb256
      obtain ⟨i0, hi0, hz0, hz1, hz2⟩ := info_parts infoInt
      have hk8 : 2 * k + 2 ≤ maxLen := by unfold maxLen; omega
      have hkb : (2 * k + 2) * 8 ≤ 140737488355328 := by omega
      go_wp2_with (at_builtin; refine wpList_append_own _ rfl (.tmp 26) (.tmp 29) 72 rfl w.heap.size 3 i0 (.int .i64 0) 1 8 Tryz.underlying72 hi0 hz0 hz1 hz2 rfl (by decide) u4 (2 * k) Xs rfl (HOk.out.alloc _) ⟨wr.heap.size, 0, none⟩ 2 2 [.int .i64 (p : Int), .int .i64 (q : Int)] rfl rfl ?c1 ?c2 ?c3 ?c4 ?c5 ?_)
      case c1 => intro j u hj; exact new_cell _ _ _ hj
      case c2 => intro u hu; simp at hu; rcases hu with rfl | rfl <;> rfl
      case c3 => exact hk8
      case c4 => exact hkb
      case c5 => simp; omega
      intro v' w2 hown2 hgrow _
      have HO2 := Lib.hid (show OwnN w2 w.heap.size v' (hexOf (R.data.toList.take (k + 1))) from by
        unfold OwnN
        rw [hnext.out, List.map_append, List.length_append, hln.out, EXs.out]
        exact hown2)
      have HB2 := Lib.hid (show Below w.heap.size w w2 from by
        refine (HB.out.alloc hbz _).grown hgrow (by simp; omega) ?_
        intro k' hk'
        exact (HOk.out.lt k' hk').1)
      clear hown2 hgrow hk8 hkb hd hm
      go_wp2_with fail
      go_roundw
      case rel => exact ⟨k + 1, by omega, by go_num, by rw [hL2.out]; congr 1; omega, HO2.out, HB2.out⟩
      case measure => simp [intOf]; omega
    · have hki : ¬ (k : Int) < 4 := by omega
      obtain rfl : k = 4 := by omega
      obtain ⟨p, hp⟩ : ∃ p, L / 16 = p := ⟨_, rfl⟩
      obtain ⟨q, hq⟩ : ∃ q, L % 16 = q := ⟨_, rfl⟩
      have hd : (L : Int) / 16 = (p : Int) := by omega
      have hm : (L : Int) % 16 = (q : Int) := by omega
      have hp15 : p ≤ 15 := by omega
      have hq15 : q ≤ 15 := by omega
      have hdig := Lib.hid (show digitsN msg = hexOf (R.data.toList.take 4) ++ [p, q] from by
        rw [← hp, ← hq, ← hL, HRl.out]; rfl)
      have hln := Lib.hid (show (hexOf (R.data.toList.take 4)).length = 8 from by rw [hexOf_length, List.length_take, size_list]; omega)
      obtain ⟨Xs, eXs⟩ : ∃ Xs : List Value, (hexOf (R.data.toList.take 4)).map intV = Xs := ⟨_, rfl⟩
      have HOk := Lib.hid (show wr.ownsRow w.heap.size 3 1 u4 8 Xs from by have := HO.out; unfold OwnN at this; rw [hln.out, eXs] at this; exact this)
      have EXs := Lib.hid eXs
      obtain ⟨i0, hi0, hz0, hz1, hz2⟩ := info_parts infoInt
      clear hL hp hq eXs
      go_wp2_with (at_builtin; refine wpList_append_own _ rfl (.tmp 38) (.tmp 43) 72 rfl w.heap.size 3 i0 (.int .i64 0) 1 8 Tryz.underlying72 hi0 hz0 hz1 hz2 rfl (by decide) u4 8 Xs rfl (HOk.out.alloc _) ⟨wr.heap.size, 0, none⟩ 2 2 [.int .i64 (p : Int), .int .i64 (q : Int)] rfl rfl ?c1 ?c2 ?c3 ?c4 ?c5 ?_)
      all_goals first
        | (intro j u hj; exact new_cell _ _ _ hj; done)
        | (intro u hu; simp at hu; rcases hu with rfl | rfl <;> rfl; done)
        | exact ⟨rfl, rfl⟩
        | (unfold maxLen; omega)
        | omega
        | (simp; omega; done)
        | skip
      intro v' w2 hown2 hgrow _
      have HO2 := Lib.hid (show OwnN w2 w.heap.size v' (digitsN msg) from by
        unfold OwnN
        rw [hdig.out, List.map_append, List.length_append, hln.out, EXs.out]
        exact hown2)
      have HB2 := Lib.hid (show Below w.heap.size w w2 from by
        refine (HB.out.alloc hbz _).grown hgrow (by simp; omega) ?_
        intro k' hk'
        exact (HOk.out.lt k' hk').1)
      have hten := Lib.hid (show (digitsN msg).length = 10 from by rw [hdig.out, List.length_append, hln.out]; rfl)
      clear hown2 hgrow
      obtain ⟨a, c, hv, hc⟩ := HO2.out.cells_
      rw [hten.out] at hv hc
      subst hv
      have HC := Lib.hid hc
      clear hc HO2
      go_wp2_with fail
      go_ret
      exact ⟨a, c, rfl, HC.out, HB2.out⟩
end Go.Proofs.YtnbaoihamjdjdaaGreatDoor.Sp

/- The document's own public key, signature, and the public key of a signature. -/
namespace Go.Proofs.YtnbaoihamjdjdaaGreatDoor.Sp
open Go Go.RowKit
set_option maxRecDepth 100000

set_option maxHeartbeats 2000000 in
theorem qpublic_any (seed : ByteArray) (l : Int) (hl : -9223372036854775808 ≤ l ∧ l ≤ 9223372036854775807) (hs : seed.size ≤ 140737488351232) (w : World) (hT : Tabs w) :
    Calls Tryz.prog 19 #[.string seed, .int .i64 l] w fun e w' => e = .returned (.string (publicB seed l)) ∧ Below w.heap.size w w' := by
  obtain ⟨f, hf⟩ : ∃ f : Nat → ByteArray, f = fun (c : Nat) => walkB (c : Int) 0 15 (secretB seed l (c : Int)) := ⟨_, rfl⟩
  have hfs : ∀ c, (f c).size = 16 := fun c => by rw [hf]; exact walkB_size _ _ _ _ (secretB_size _ _ _)
  obtain ⟨R, hR⟩ : ∃ R : ByteArray, publicB seed l = R := ⟨_, rfl⟩
  have HR := Lib.hid (show R = ⟨(sum (inB 4 (endsTo f 10))).toArray⟩ from by rw [← hR, hf]; rfl)
  rw [hR]
  have Hfs := Lib.hid hfs
  have HT := Lib.hid hT
  have Hf := Lib.hid hf
  clear hR hfs hT hf
  go_enter Tryz.func19, Tryz.ntmps19
  go_wp2_with fail
  go_loopw [5, 6] (fun x y wr => ∃ k : Nat, k ≤ 10 ∧ y = .int .i64 (k : Int) ∧ OwnT wr w.heap.size x (endsTo f k) ∧ Tabs wr ∧ Below w.heap.size w wr) (fun _ y _ => 10 - (intOf y).toNat)
  case atStart => exact ⟨0, by omega, rfl, World.ownsRow_nil _ _ _ _, HT.out, Below.refl _ _⟩
  case round =>
    obtain ⟨k, hk, rfl, hown, ht, hbel⟩ := hrel
    have HO := Lib.hid hown
    have HTr := Lib.hid ht
    have HB := Lib.hid hbel
    have hbz := hbel.size
    clear hown ht hbel
    by_cases hlt : k < 10
    · have hki : (k : Int) < 10 := by omega
      obtain ⟨Sx, hSx⟩ : ∃ Sx, secretB seed l (k : Int) = Sx := ⟨_, rfl⟩
      have HS := Lib.hid (qsecret_any seed l (k : Int) hl (by omega) hs)
      rw [hSx] at HS
      obtain ⟨W, hW⟩ : ∃ W, f k = W := ⟨_, rfl⟩
      have hWw : walkB (k : Int) 0 15 Sx = W := by rw [← hW, Hf.out, ← hSx]
      have HW := Lib.hid (qwalk_any (k : Int) 0 15 Sx (by omega) (by omega) (by omega) (by rw [← hSx, secretB_size]; omega))
      rw [hWw] at HW
      have hnext := Lib.hid (show endsTo f (k + 1) = endsTo f k ++ [W] from by rw [endsTo_succ, hW])
      obtain ⟨Xs, eXs⟩ : ∃ Xs : List Value, (endsTo f k).map Value.string = Xs := ⟨_, rfl⟩
      have HOk := Lib.hid (show wr.ownsRow w.heap.size 9 1 u5 k Xs from by have := HO.out; unfold OwnT at this; rw [endsTo_length, eXs] at this; exact this)
      have EXs := Lib.hid eXs
      clear hSx hW hWw eXs hlt
      obtain ⟨i0, hi0, hz0, hz1, hz2⟩ := info_parts infoText
      have hk8 : k + 1 ≤ maxLen := by unfold maxLen; omega
      have hkb : (k + 1) * 16 ≤ 140737488355328 := by omega
      go_wp2_with fail
      refine (HS.out wr HTr.out).mono ?_
      rintro e w1 ⟨rfl, h1⟩
      have T1 := Lib.hid (HTr.out.below h1)
      have B1 := Lib.hid (HB.out.trans (h1.mono HB.out.size))
      have O1 := Lib.hid (own_below HOk.out h1)
      clear h1 HOk HO
      go_wp2_with fail
      refine (HW.out w1 T1.out).mono ?_
      rintro e w2 ⟨rfl, h2⟩
      have T2 := Lib.hid (T1.out.below h2)
      have B2 := Lib.hid (B1.out.trans (h2.mono B1.out.size))
      have O2 := Lib.hid (own_below O1.out h2)
      have b2 := B2.out.size
      clear h2 O1
      go_wp2_with (at_builtin; refine wpList_append_own _ rfl (.tmp 11) (.tmp 18) 22 rfl w.heap.size 9 i0 (.string .empty) 1 16 Tryz.underlying22 hi0 hz0 hz1 hz2 rfl (by decide) u5 k Xs rfl (O2.out.alloc _) ⟨w2.heap.size, 0, none⟩ 1 1 [.string W] rfl rfl ?c1 ?c2 ?c3 ?c4 ?c5 ?_)
      case c1 => intro j u hj; exact new_cell _ _ _ hj
      case c2 => intro u hu; simp at hu; subst hu; rfl
      case c3 => exact hk8
      case c4 => exact hkb
      case c5 => simp; omega
      intro v' w3 hown3 hgrow _
      have HO3 := Lib.hid (show OwnT w3 w.heap.size v' (endsTo f (k + 1)) from by
        unfold OwnT
        rw [hnext.out, List.map_append, List.length_append, endsTo_length, EXs.out]
        exact hown3)
      have HB3 := Lib.hid (show Below w.heap.size w w3 from by
        refine (B2.out.alloc b2 _).grown hgrow (by simp; omega) ?_
        intro k' hk'
        exact (O2.out.lt k' hk').1)
      have HT3 := Lib.hid (show Tabs w3 from HT.out.below HB3.out)
      clear hown3 hgrow hk8 hkb
      go_wp2_with fail
      go_roundw
      case rel => exact ⟨k + 1, by omega, by go_num, HO3.out, HT3.out, HB3.out⟩
      case measure => simp [intOf]; omega
    · have hki : ¬ (k : Int) < 10 := by omega
      obtain rfl : k = 10 := by omega
      obtain ⟨a, c, hv, hS⟩ := HO.out.strs
      rw [endsTo_length] at hv hS
      subst hv
      have HSt := Lib.hid hS
      have HL := Lib.hid (show len2 (endsTo f 10) 10 ≤ 281474976710656 from by
        have h := len2_16 (endsTo f 10) (endsTo_size f Hfs.out 10)
        rw [endsTo_length] at h
        omega)
      clear hS HO
      go_wp2_with fail
      refine (qtag_of 4 (by omega) a 10 c (endsTo f 10) wr HSt.out (by omega) HL.out HTr.out R HR.out).mono ?_
      rintro e w3 ⟨rfl, h3⟩
      have B3 := Lib.hid (HB.out.trans (h3.mono HB.out.size))
      clear h3
      go_wp2_with fail
      go_ret
      exact ⟨rfl, B3.out⟩

set_option maxHeartbeats 2000000 in
theorem qsign_any (seed : ByteArray) (l : Int) (msg : ByteArray) (hl : -9223372036854775808 ≤ l ∧ l ≤ 9223372036854775807) (hs : seed.size ≤ 140737488351232) (hm : msg.size ≤ 140737488351232) (w : World) (hT : Tabs w) :
    Calls Tryz.prog 29 #[.string seed, .int .i64 l, .string msg] w fun e w' => e = .returned (.string (signB seed l msg)) ∧ Below w.heap.size w w' := by
  have HT := Lib.hid hT
  obtain ⟨Z, hZ⟩ : ∃ Z, signB seed l msg = Z := ⟨_, rfl⟩
  have HZ := Lib.hid hZ
  rw [hZ]
  clear hT hZ
  go_enter Tryz.func29, Tryz.ntmps29
  go_wp2_with fail
  refine (qdigits_any msg hm w HT.out).mono ?_
  rintro e w0 ⟨a, cap, rfl, hcells, h0⟩
  have HC0 := Lib.hid hcells
  have T0 := Lib.hid (HT.out.below h0)
  have B0 := Lib.hid h0
  clear hcells h0
  go_wp2_with fail
  go_loopw [8, 9] (fun x y wr => ∃ k : Nat, k ≤ 10 ∧ y = .int .i64 (k : Int) ∧ x = .string (signUpto seed l msg k) ∧ Cells wr a 10 (fun j => intV ((digitsN msg).getD j 0)) ∧ Tabs wr ∧ Below w.heap.size w wr) (fun _ y _ => 10 - (intOf y).toNat)
  case atStart => exact ⟨0, by omega, rfl, rfl, HC0.out, T0.out, B0.out⟩
  case round =>
    obtain ⟨k, hk, rfl, rfl, hc, ht, hbel⟩ := hrel
    have HTr := Lib.hid ht
    have HB := Lib.hid hbel
    have HC := Lib.hid hc
    clear ht hbel
    obtain ⟨G, hG⟩ : ∃ G, signUpto seed l msg k = G := ⟨_, rfl⟩
    have hGs : G.size = 16 * k := by rw [← hG, signUpto_size]
    rw [hG]
    by_cases hlt : k < 10
    · have hki : (k : Int) < 10 := by omega
      have hk0 : (0 : Int) ≤ (k : Int) := by omega
      obtain ⟨b, off, rfl, hcell⟩ := hc (by omega)
      obtain ⟨d, hd⟩ : ∃ d, (digitsN msg).getD k 0 = d := ⟨_, rfl⟩
      have hd15 : d ≤ 15 := by rw [← hd]; exact digits_le msg k
      have ck := hcell k hlt
      simp only [hd, intV] at ck
      obtain ⟨Sx, hSx⟩ : ∃ Sx, secretB seed l (k : Int) = Sx := ⟨_, rfl⟩
      have HS := Lib.hid (qsecret_any seed l (k : Int) hl (by omega) hs)
      rw [hSx] at HS
      obtain ⟨W, hW⟩ : ∃ W, walkB (k : Int) 0 (d : Int) Sx = W := ⟨_, rfl⟩
      have hWs : W.size = 16 := by rw [← hW]; exact walkB_size _ _ _ _ (by rw [← hSx]; exact secretB_size _ _ _)
      have HW := Lib.hid (qwalk_any (k : Int) 0 (d : Int) Sx (by omega) (by omega) (by omega) (by rw [← hSx, secretB_size]; omega))
      rw [hW] at HW
      have hnext := Lib.hid (show G ++ W = signUpto seed l msg (k + 1) from by rw [signUpto, hd, hG, hSx, hW])
      have hcat : ¬ 9223372036854775807 < G.size + W.size := by omega
      have hcat2 : ¬ 9223372036854775807 < 16 * k + 16 := by omega
      clear hSx hW hd hcell hlt hG
      have hbw : b < wr.heap.size := block_lt_of_cell ck
      go_wp2_with fail
      go_region_law ((first
        | (go_simp; go_at_call 53; refine (HS.out _ (by first | exact HTr.out | exact Tabs.drew_ HTr.out)).mono ?_; rintro e w1 ⟨rfl, h1⟩; have h1 : Below wr.heap.size wr w1 := (by first | exact h1 | exact below_of_drew h1 | exact below_of_drew (below_of_drew h1)); have T1 := Lib.hid (HTr.out.below h1); have B1 := Lib.hid (HB.out.trans (h1.mono HB.out.size)); have C1 := Lib.hid (HC.out.below_ h1); have ck1 : w1.cell? ⟨b, off + k, none⟩ = some (.int .i64 (d : Int)) := (h1.cell (p := ⟨b, off + k, none⟩) hbw).trans ck; clear h1)
        | (go_simp; go_at_call 52; refine (HW.out _ (by first | exact T1.out | exact Tabs.drew_ T1.out)).mono ?_; rintro e w2 ⟨rfl, h2⟩; have h2 : Below w1.heap.size w1 w2 := (by first | exact h2 | exact below_of_drew h2 | exact below_of_drew (below_of_drew h2)); have T2 := Lib.hid (T1.out.below h2); have B2 := Lib.hid (B1.out.trans (h2.mono B1.out.size)); have C2 := Lib.hid (C1.out.below_ h2); clear h2)))
      all_goals
        go_wp2_with fail
        go_roundw
        case rel => exact ⟨k + 1, by omega, by go_num, by rw [hnext.out], C2.out, T2.out, B2.out⟩
        case measure => simp [intOf]; omega
    · have hki : ¬ (k : Int) < 10 := by omega
      obtain rfl : k = 10 := by omega
      have hGZ : G = Z := by rw [← hG]; exact HZ.out
      subst hGZ
      clear hG hc hGs
      go_wp2_with fail
      go_ret
      exact ⟨rfl, HB.out⟩

end Go.Proofs.YtnbaoihamjdjdaaGreatDoor.Sp

/- The document's own public key of a signature. -/
namespace Go.Proofs.YtnbaoihamjdjdaaGreatDoor.Sp
open Go Go.RowKit
set_option maxRecDepth 100000

set_option maxHeartbeats 4000000 in
theorem qfrom_any (sig msg : ByteArray) (_hs : sig.size ≤ 9223372036854775807) (hm : msg.size ≤ 140737488351232) (w : World) (hT : Tabs w) :
    Calls Tryz.prog 47 #[.string sig, .string msg] w fun e w' => e = .returned (.string (fromB sig msg)) ∧ Below w.heap.size w w' := by
  have HT := Lib.hid hT
  clear hT
  by_cases hsz : sig.size = 160
  · obtain ⟨f, hf⟩ : ∃ f : Nat → ByteArray, f = fun (c : Nat) => walkB (c : Int) ((digitsN msg).getD c 0 : Nat) 15 (sig.extract (16 * c) (16 * c + 16)) := ⟨_, rfl⟩
    obtain ⟨R, hR⟩ : ∃ R : ByteArray, fromB sig msg = R := ⟨_, rfl⟩
    have HR := Lib.hid (show R = ⟨(sum (inB 4 (endsTo f 10))).toArray⟩ from by rw [← hR, fromB, if_pos hsz, hf]; rfl)
    have hfs : ∀ c, c < 10 → (f c).size = 16 := fun c hc => by
      rw [hf]
      refine walkB_size _ _ _ _ ?_
      rw [ByteArray.size_extract]; omega
    rw [hR]
    have Hfs := Lib.hid hfs
    have Hf := Lib.hid hf
    have hszi : (sig.size : Int) = 160 := by omega
    clear hR hfs hf _hs
    go_enter Tryz.func47, Tryz.ntmps47
    go_wp2_with fail
    refine (qdigits_any msg hm w HT.out).mono ?_
    rintro e w0 ⟨a, cap, rfl, hcells, h0⟩
    have HC0 := Lib.hid hcells
    have T0 := Lib.hid (HT.out.below h0)
    have B0 := Lib.hid h0
    clear hcells h0
    go_wp2_with fail
    go_loopw [6, 7] (fun x y wr => ∃ k : Nat, k ≤ 10 ∧ y = .int .i64 (k : Int) ∧ OwnT wr w0.heap.size x (endsTo f k) ∧ Cells wr a 10 (fun j => intV ((digitsN msg).getD j 0)) ∧ Tabs wr ∧ Below w0.heap.size w0 wr) (fun _ y _ => 10 - (intOf y).toNat)
    case atStart => exact ⟨0, by omega, rfl, World.ownsRow_nil _ _ _ _, HC0.out, T0.out, Below.refl _ _⟩
    case round =>
      obtain ⟨k, hk, rfl, hown, hc, ht, hbel⟩ := hrel
      have HO := Lib.hid hown
      have HTr := Lib.hid ht
      have HB := Lib.hid hbel
      have HC := Lib.hid hc
      have hbz := hbel.size
      clear hown ht hbel
      by_cases hlt : k < 10
      · have hki : (k : Int) < 10 := by omega
        have hk0 : (0 : Int) ≤ (k : Int) := by omega
        obtain ⟨b, off, rfl, hcell⟩ := hc (by omega)
        obtain ⟨d, hd⟩ : ∃ d, (digitsN msg).getD k 0 = d := ⟨_, rfl⟩
        have hd15 : d ≤ 15 := by rw [← hd]; exact digits_le msg k
        have ck := hcell k hlt
        simp only [hd, intV] at ck
        obtain ⟨p, hp⟩ : ∃ p : Nat, 16 * k = p := ⟨_, rfl⟩
        have hpi : 16 * (k : Int) = (p : Int) := by omega
        have hpw : IntKind.i64.wrap (p : Int) = (p : Int) := by rw [IntKind.wrap_i64]; omega
        obtain ⟨q, hq⟩ : ∃ q : Nat, p + 16 = q := ⟨_, rfl⟩
        have hqi : (p : Int) + 16 = (q : Int) := by omega
        have hqw : IntKind.i64.wrap (q : Int) = (q : Int) := by rw [IntKind.wrap_i64]; omega
        have hpq : (p : Int) ≤ (q : Int) := by omega
        have hqs : (q : Int) ≤ (sig.size : Int) := by omega
        have hq160 : (q : Int) ≤ 160 := by omega
        have hp0 : (0 : Int) ≤ (p : Int) := by omega
        obtain ⟨V, hV⟩ : ∃ V, sig.extract p q = V := ⟨_, rfl⟩
        have hVs : V.size = 16 := by rw [← hV, ByteArray.size_extract]; omega
        obtain ⟨W, hW⟩ : ∃ W, f k = W := ⟨_, rfl⟩
        have hWw : walkB (k : Int) (d : Int) 15 V = W := by rw [← hW, Hf.out, ← hV, ← hq, ← hp, ← hd]
        have HW := Lib.hid (qwalk_any (k : Int) (d : Int) 15 V (by omega) (by omega) (by omega) (by omega))
        rw [hWw] at HW
        have hnext := Lib.hid (show endsTo f (k + 1) = endsTo f k ++ [W] from by rw [endsTo_succ, hW])
        obtain ⟨Xs, eXs⟩ : ∃ Xs : List Value, (endsTo f k).map Value.string = Xs := ⟨_, rfl⟩
        have HOk := Lib.hid (show wr.ownsRow w0.heap.size 9 1 u6 k Xs from by have := HO.out; unfold OwnT at this; rw [endsTo_length, eXs] at this; exact this)
        have EXs := Lib.hid eXs
        obtain ⟨i0, hi0, hz0, hz1, hz2⟩ := info_parts infoText
        have hk8 : k + 1 ≤ maxLen := by unfold maxLen; omega
        have hkb : (k + 1) * 16 ≤ 140737488355328 := by omega
        clear hW hWw eXs hlt hp hq hd hcell
        have hbw : b < wr.heap.size := block_lt_of_cell ck
        clear HO
        go_wp2_with fail
        go_region_law ((first
          | (refine step_append_lies _ (by rfl) _ _ _ (by rfl) w0.heap.size 9 i0 _ 1 16 Tryz.underlying22 hi0 hz0 hz1 hz2 rfl Nat.one_pos u6 k Xs (by rfl) (by first | exact World.ownsRow.alloc O2.out _ | exact (World.ownsRow.alloc O2.out _).drew) ⟨w2.heap.size, 0, none⟩ 1 1 _ (by rfl) (by rfl) (World.news_of_block (heap_alloc_new w2 _)) (by simp [Value.oneCell']) Nat.one_pos hk8 hkb (by simp; omega) (w2.heap.size + 1) (by simp) ?_; intro gg cap3 w3 hown3 hgrow hat hgl; have HO3 := Lib.hid (show OwnT w3 w0.heap.size (.slice (some ⟨gg, 0, none⟩) (k + 1) cap3) (endsTo f (k + 1)) from (by unfold OwnT; rw [hnext.out, List.map_append, List.length_append, endsTo_length, EXs.out]; exact hown3)); have HB3 := Lib.hid (show Below w0.heap.size w0 w3 from (by first | exact (B2.out.alloc b2 _).grown hgrow (by simp; omega) (fun k' hk' => (O2.out.lt k' hk').1) | exact ((B2.out.alloc b2 _).drew).grown hgrow (by simp; omega) (fun k' hk' => (O2.out.lt k' hk').1))); clear hown3 hgrow hat hgl)
          | (go_simp; go_at_call 52; refine (HW.out _ (by first | exact HTr.out | exact Tabs.drew_ HTr.out)).mono ?_; rintro e w2 ⟨rfl, h2⟩; have h2 : Below wr.heap.size wr w2 := (by first | exact h2 | exact below_of_drew h2 | exact below_of_drew (below_of_drew h2)); have B2 := Lib.hid (HB.out.trans (h2.mono HB.out.size)); have O2 := Lib.hid (own_below HOk.out h2); have b2 := B2.out.size; have ck2 : w2.cell? ⟨b, off + k, none⟩ = some (.int .i64 (d : Int)) := (h2.cell (p := ⟨b, off + k, none⟩) hbw).trans ck; clear h2)))
        all_goals
          have HT3 := Lib.hid (show Tabs w3 from T0.out.below HB3.out)
          have HC3 := Lib.hid (HC0.out.below_ HB3.out)
          go_wp2_with fail
          go_roundw
          case rel => exact ⟨k + 1, by omega, by go_num, HO3.out, HC3.out, HT3.out, HB3.out⟩
          case measure => simp [intOf]; omega
      · have hki : ¬ (k : Int) < 10 := by omega
        obtain rfl : k = 10 := by omega
        obtain ⟨a2, c2, hv, hS⟩ := HO.out.strs
        rw [endsTo_length] at hv hS
        subst hv
        have HSt := Lib.hid hS
        have HL := Lib.hid (show len2 (endsTo f 10) 10 ≤ 281474976710656 from by
          have h := len2_16 (endsTo f 10) (by
            intro x hx
            simp only [endsTo, List.mem_map, List.mem_range] at hx
            obtain ⟨c, hc10, rfl⟩ := hx
            exact Hfs.out c hc10)
          rw [endsTo_length] at h
          omega)
        clear hS HO hc
        go_wp2_with fail
        refine (qtag_of 4 (by omega) a2 10 c2 (endsTo f 10) wr HSt.out (by omega) HL.out HTr.out R HR.out).mono ?_
        rintro e w3 ⟨rfl, h3⟩
        have B3 := Lib.hid (B0.out.trans ((HB.out.trans (h3.mono HB.out.size)).mono B0.out.size))
        clear h3
        go_wp2_with fail
        go_ret
        exact ⟨rfl, B3.out⟩
  · have hR : fromB sig msg = .empty := by rw [fromB, if_neg hsz]
    rw [hR]
    have hszb : ¬ (sig.size : Int) = 160 := by omega
    clear hR hsz
    go_enter Tryz.func47, Tryz.ntmps47
    go_wp2_with fail
    go_ret
    exact ⟨rfl, Below.refl _ _⟩
end Go.Proofs.YtnbaoihamjdjdaaGreatDoor.Sp
