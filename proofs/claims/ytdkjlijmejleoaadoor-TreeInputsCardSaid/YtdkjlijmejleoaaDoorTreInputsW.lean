/- The walk of TreeInputs. -/
import Derived.Test.YtdkjlijmejleoaaDoorTreRootsW
namespace Go.Proofs.YtdkjlijmejleoaaDoor.Sp
open Go Go.RowKit

theorem climbed_le : ∀ (p : List ByteArray) (x : ByteArray) (i : Nat), (∀ y ∈ p, x.size + y.size ≤ TM ∧ 32 + y.size ≤ TM) → ∀ z ∈ climbedB x i p, z.size ≤ 9223372036854775000
  | [], _, _, _, _, hz => by cases hz
  | y :: p, x, i, hp, z, hz => by
    have hy := hp y (by simp)
    rw [climbedB] at hz
    rcases List.mem_cons.1 hz with rfl | hz
    · unfold TM at hy
      split <;> rw [inpB_size] <;> omega
    · refine climbed_le p _ (i / 2) (fun y hy => ?_) z hz
      have h := (hp y (by simp [hy])).2
      split <;> rw [nodeB_size] <;> exact ⟨h, h⟩

set_option maxRecDepth 100000 in
set_option maxHeartbeats 8000000 in
theorem inputs_law (P : TreeP) (raw : List ByteArray) (a : Option Addr) (n cap : Nat) (hn : n ≤ 9223372036854775807) (hsz : ∀ x ∈ raw, x.size ≤ 9223372036854775807) (H i : Int) (hH : -9223372036854775808 ≤ H ∧ H ≤ 9223372036854775807) (hi : -9223372036854775808 ≤ i ∧ i ≤ 9223372036854775807)
    (x : ByteArray) (l1 : List ByteArray) (a1 : Option Addr) (n1 c1 : Nat) (hc1 : n1 ≤ c1) (hxs : x.size ≤ 140737488355328) (hM1 : ∀ y ∈ l1, x.size + y.size ≤ TM ∧ 32 + y.size ≤ TM) (w : World) (hl : Strs w a n raw) (hl1 : Strs w a1 n1 l1) (hT : Tab w) :
    Calls Tryd.prog 8 #[.slice a n cap, .int .i64 H, .int .i64 i, .string x, .slice a1 n1 c1] w fun e w' => e = .returned (.bool true) ∧ Below w.heap.size w w' := by
  obtain ⟨r, hr, hp⟩ := height_any H hH
  obtain ⟨L, hL⟩ : ∃ L, leavesTo raw (2 ^ r) = L := ⟨_, rfl⟩
  obtain ⟨N, hN⟩ : ∃ N, 2 ^ r = N := ⟨_, rfl⟩
  have hN16 : N ≤ 16 := by rw [← hN]; exact pow16 r hr
  have hN1 : 0 < N := by rw [← hN]; exact Nat.pow_pos (by omega)
  have hLl : L.length = N := by rw [← hL, leavesTo_len, hN]
  have hL32 : ∀ y ∈ L, y.size = 32 := by rw [← hL]; exact leavesTo_size _ _
  have hsm := small32 (fun y hy => Nat.le_of_eq (hL32 y hy))
  obtain ⟨R, hR⟩ : ∃ R, rootB L = R := ⟨_, rfl⟩
  obtain ⟨I, hI⟩ : ∃ I, inputsB L = I := ⟨_, rfl⟩
  obtain ⟨M, hM⟩ : ∃ M, N - 1 = M := ⟨_, rfl⟩
  have hIe : I = inputsUp r L := by rw [← hI]; exact inputs_pow L r (by omega) (by rw [hLl, hN])
  have hIl : I.length = M := by rw [hIe, inputs_len r L (by rw [hLl, hN]), hN, hM]
  have hI73 : ∀ z ∈ I, z.size ≤ 73 := by rw [hIe]; exact inputs_size r L (fun y hy => Nat.le_of_eq (hL32 y hy))
  obtain ⟨Z, hZ⟩ : ∃ Z, I.getD (M - 1) .empty = Z := ⟨_, rfl⟩
  have hZR : 0 < M → sumT Z = R ∧ Z.size ≤ 73 := fun h => by
    refine ⟨?_, by rw [← hZ]; exact getD_le hI73 _⟩
    rw [← hZ, ← hIl, last_getD I (by omega), ← hR, root_pow L r (by omega) (by rw [hLl, hN]), hIe]
    cases r with
    | zero => rw [← hM, ← hN] at h; exact absurd h (by decide)
    | succ r => exact inputs_last r L (by rw [hLl, hN])
  obtain ⟨k1, hk1⟩ : ∃ k, Nat.min n1 20 = k := ⟨_, rfl⟩
  obtain ⟨m7, m8, m9, m10, m11, m12⟩ := min_forms n1 20 k1 hk1
  simp only [Int.cast_ofNat_Int] at m7 m8 m9 m10
  obtain ⟨p1, e1, f1⟩ := first_any a1 n1 c1 k1 (by omega)
  obtain ⟨Q, hQe⟩ : ∃ Q, l1.take k1 = Q := ⟨_, rfl⟩
  have hl1n := hl1.1
  have hQl : Q.length = k1 := by rw [← hQe, List.length_take]; omega
  have hMQ : ∀ y ∈ Q, x.size + y.size ≤ TM ∧ 32 + y.size ≤ TM := fun y hy => hM1 y (by rw [← hQe] at hy; exact List.mem_of_mem_take hy)
  have FQ := Lib.hid (fun W h => show Strs W p1 k1 Q from hQe ▸ f1 W l1 m11 h)
  obtain ⟨C, hC⟩ : ∃ C, climbI x i Q = C := ⟨_, rfl⟩
  obtain ⟨D, hD⟩ : ∃ D, climbedI x i Q = D := ⟨_, rfl⟩
  have hDl : D.length = k1 := by rw [← hD]; unfold climbedI; rw [climbed_len, hQl]
  obtain ⟨Y, hY⟩ : ∃ Z, D.getD (k1 - 1) .empty = Z := ⟨_, rfl⟩
  have hYC : 0 < k1 → sumT Y = C ∧ Y.size ≤ 9223372036854775000 := fun h => by
    refine ⟨?_, ?_⟩
    · rw [← hY, ← hDl, last_getD D (by omega), ← hC, ← hD]
      exact climbed_last Q x i.toNat (fun e => by rw [e] at hQl; simp at hQl; omega)
    · rw [← hY]
      refine getD_le (fun y hy => ?_) _
      rw [← hD] at hy
      exact climbed_le Q x i.toNat hMQ y hy
  have HLv := Lib.hid (fun w hl => leaves_any raw a n cap hn hsz H r hr hp w hl)
  rw [hL] at HLv
  have HRt := Lib.hid (fun a c w hs ht => P.root L a N c w (by omega) hsm hs ht)
  rw [hR] at HRt
  have HIn := Lib.hid (fun a c w hs ht => P.inputs L a N c w (by omega) hsm hs ht)
  rw [hI] at HIn
  have C1 := Lib.hid (fun W hs ht => P.climb x i Q p1 k1 c1 W (by omega) hi hxs hMQ hs ht)
  have D1 := Lib.hid (fun W hs ht => P.climbed x i Q p1 k1 c1 W (by omega) hi hMQ hs ht)
  rw [hC] at C1
  rw [hD] at D1
  have hMi : (N : Int) - 1 = (M : Int) := by omega
  have hMw : IntKind.i64.wrap (M : Int) = (M : Int) := by rw [IntKind.wrap_i64]; omega
  have HLl := Lib.hid (And.intro hLl (And.intro hIl hDl))
  have HL := Lib.hid (And.intro hl hl1)
  have HT := Lib.hid hT
  have HZ := Lib.hid hZ
  have HY := Lib.hid hY
  have HZR := Lib.hid hZR
  have HYC := Lib.hid hYC
  have hM16 : M ≤ 16 := by omega
  clear hp hL hN hL32 hsm hR hLl hl hT hsz hH hi hI hIe hIl hI73 hQe hQl hMQ hC hD hDl hl1 hM1 hM hN1 hk1 f1 hZ hY hZR hYC hl1n
  go_enter Tryd.func8, Tryd.ntmps8
  go_wp2_with fail
  refine (awake_any P w HT.out).mono ?_
  rintro e w1 ⟨rfl, h1⟩
  have T1 := Lib.hid (tab_below HT.out h1)
  have L1 := Lib.hid (And.intro (HL.out.1.below h1) (HL.out.2.below h1))
  have B1 := Lib.hid h1
  clear h1
  go_wp2_with fail
  refine (HLv.out w1 L1.out.1).mono ?_
  rintro e w2 ⟨a2, c2, rfl, hs2, h2, _⟩
  rw [HLl.out.1] at hs2 ⊢
  have T2 := Lib.hid (tab_below T1.out h2)
  have S2 := Lib.hid hs2
  have P2 := Lib.hid (L1.out.2.below h2)
  have B2 := Lib.hid (B1.out.trans (h2.mono B1.out.size))
  clear hs2 h2
  go_wp2_with fail
  refine (HIn.out _ _ w2 S2.out T2.out).mono ?_
  rintro e w3 ⟨a3, c3, rfl, hs3, h3, _⟩
  rw [HLl.out.2.1] at hs3 ⊢
  have T3 := Lib.hid (tab_below T2.out h3)
  have S3 := Lib.hid (S2.out.below h3)
  have P3 := Lib.hid (FQ.out _ (P2.out.below h3))
  have I3 := Lib.hid hs3
  have B3 := Lib.hid (B2.out.trans (h3.mono B2.out.size))
  clear hs3 h3
  go_wp2_with fail
  refine (D1.out w3 P3.out T3.out).mono ?_
  rintro e w4 ⟨a4, c4, rfl, hs4, h4, _⟩
  rw [HLl.out.2.2] at hs4 ⊢
  have T4 := Lib.hid (tab_below T3.out h4)
  have S4 := Lib.hid (S3.out.below h4)
  have P4 := Lib.hid (P3.out.below h4)
  have I4 := Lib.hid (I3.out.below h4)
  have D4 := Lib.hid hs4
  have B4 := Lib.hid (B3.out.trans (h4.mono B3.out.size))
  clear hs4 h4
  by_cases hM0 : M = 0
  · subst hM0
    by_cases hk0 : k1 = 0
    · subst hk0
      go_wp2_with fail
      go_ret
      exact ⟨rfl, B4.out⟩
    · obtain ⟨u, hu⟩ : ∃ u, k1 - 1 = u := ⟨_, rfl⟩
      have hui : (k1 : Int) - 1 = (u : Int) := by omega
      have huw : IntKind.i64.wrap (u : Int) = (u : Int) := by rw [IntKind.wrap_i64]; omega
      have huk : (u : Int) < (k1 : Int) := by omega
      have hu0 : (0 : Int) ≤ (u : Int) := by omega
      have hkne : ((k1 : Int) == 0) = false := by rw [beq_eq_false_iff_ne]; omega
      obtain ⟨hyc, hys⟩ := HYC.out (by omega)
      have hy := HY.out
      rw [hu] at hy
      obtain ⟨bd, od, rfl, hcd⟩ := D4.out.2 (by omega)
      have x4 := hcd u (by omega)
      rw [hy] at x4
      have HSu := Lib.hid (fun w ht => psum_any Y w (by omega) ht)
      rw [hyc] at HSu
      have hselfC := text_self C
      clear hcd hyc hys hy hu hk0
      go_wp2_with fail
      refine (HSu.out w4 T4.out).mono ?_
      rintro e w7 ⟨rfl, h7⟩
      have T7 := Lib.hid (tab_below T4.out h7)
      have P7 := Lib.hid (P4.out.below h7)
      have B7 := Lib.hid (B4.out.trans (h7.mono B4.out.size))
      clear h7
      go_wp2_with fail
      refine (C1.out w7 P7.out T7.out).mono ?_
      rintro e w8 ⟨rfl, h8⟩
      have B8 := Lib.hid (B7.out.trans (h8.mono B7.out.size))
      clear h8
      go_wp2_with fail
      go_ret
      exact ⟨rfl, B8.out⟩
  · obtain ⟨m, hm⟩ : ∃ m, M - 1 = m := ⟨_, rfl⟩
    have hmi : (M : Int) - 1 = (m : Int) := by omega
    have hmw : IntKind.i64.wrap (m : Int) = (m : Int) := by rw [IntKind.wrap_i64]; omega
    have hmM : (m : Int) < (M : Int) := by omega
    have hm0 : (0 : Int) ≤ (m : Int) := by omega
    have hMne : ((M : Int) == 0) = false := by rw [beq_eq_false_iff_ne]; omega
    obtain ⟨hzr, hz73⟩ := HZR.out (by omega)
    have hz := HZ.out
    rw [hm] at hz
    obtain ⟨bi, oi, rfl, hci⟩ := I4.out.2 (by omega)
    have x3 := hci m (by omega)
    rw [hz] at x3
    have HSm := Lib.hid (fun w ht => psum_any Z w (by omega) ht)
    rw [hzr] at HSm
    have hself := text_self R
    clear hci hzr hz73 hz hm hM0
    go_wp2_with fail
    refine (HSm.out w4 T4.out).mono ?_
    rintro e w5 ⟨rfl, h5⟩
    have T5 := Lib.hid (tab_below T4.out h5)
    have S5 := Lib.hid (S4.out.below h5)
    have P5 := Lib.hid (P4.out.below h5)
    have D5 := Lib.hid (D4.out.below h5)
    have B5 := Lib.hid (B4.out.trans (h5.mono B4.out.size))
    clear h5 x3
    go_wp2_with fail
    refine (HRt.out _ _ w5 S5.out T5.out).mono ?_
    rintro e w6 ⟨rfl, h6⟩
    have T6 := Lib.hid (tab_below T5.out h6)
    have P6 := Lib.hid (P5.out.below h6)
    have D6 := Lib.hid (D5.out.below h6)
    have B6 := Lib.hid (B5.out.trans (h6.mono B5.out.size))
    clear h6
    by_cases hk0 : k1 = 0
    · subst hk0
      go_wp2_with fail
      go_ret
      exact ⟨rfl, B6.out⟩
    · obtain ⟨u, hu⟩ : ∃ u, k1 - 1 = u := ⟨_, rfl⟩
      have hui : (k1 : Int) - 1 = (u : Int) := by omega
      have huw : IntKind.i64.wrap (u : Int) = (u : Int) := by rw [IntKind.wrap_i64]; omega
      have huk : (u : Int) < (k1 : Int) := by omega
      have hu0 : (0 : Int) ≤ (u : Int) := by omega
      have hkne : ((k1 : Int) == 0) = false := by rw [beq_eq_false_iff_ne]; omega
      obtain ⟨hyc, hys⟩ := HYC.out (by omega)
      have hy := HY.out
      rw [hu] at hy
      obtain ⟨bd, od, rfl, hcd⟩ := D6.out.2 (by omega)
      have x4 := hcd u (by omega)
      rw [hy] at x4
      have HSu := Lib.hid (fun w ht => psum_any Y w (by omega) ht)
      rw [hyc] at HSu
      have hselfC := text_self C
      clear hcd hyc hys hy hu hk0
      go_wp2_with fail
      refine (HSu.out w6 T6.out).mono ?_
      rintro e w7 ⟨rfl, h7⟩
      have T7 := Lib.hid (tab_below T6.out h7)
      have P7 := Lib.hid (P6.out.below h7)
      have B7 := Lib.hid (B6.out.trans (h7.mono B6.out.size))
      clear h7
      go_wp2_with fail
      refine (C1.out w7 P7.out T7.out).mono ?_
      rintro e w8 ⟨rfl, h8⟩
      have B8 := Lib.hid (B7.out.trans (h8.mono B7.out.size))
      clear h8
      go_wp2_with fail
      go_ret
      exact ⟨rfl, B8.out⟩
end Go.Proofs.YtdkjlijmejleoaaDoor.Sp
