/- The walk of TreeHalves. -/
import Derived.Test.YtdkjlijmejleoaaDoorTreTellsW
namespace Go.Proofs.YtdkjlijmejleoaaDoor.Sp
open Go Go.RowKit

/-- A list from a place on. -/
theorem from_any (b off n k c : Nat) (hk : k ≤ n) (hc : n ≤ c) : ∃ p : Option Addr, (∀ W : World, (Instr.slice 22 (.slice (some ⟨b, off, none⟩) n c) (some (.int .i64 (k : Int))) none none).run Tryd.prog W = .ok (.slice p (n - k) (c - k)) W) ∧
    ∀ (W : World) (l : List ByteArray), Strs W (some ⟨b, off, none⟩) n l → Strs W p (n - k) (l.drop k) := by
  refine ⟨some (if c = k then ⟨b, off, none⟩ else ⟨b, off + k, none⟩), fun W => ?_, fun W l h => ⟨by rw [List.length_drop, h.1], fun hp => ?_⟩⟩
  · have h := run_slice_l (P := Tryd.prog) W 22 (some ⟨b, off, none⟩) n c Tryd.underlying22 .i64 (k : Int) (by omega) (by omega)
    rw [h]
    have hz : (sizeOf (Tryd.prog.elem 22)).run Tryd.prog W = .ok 1 W := Tryd.sizeOf9 W
    rw [hz]
    simp only [Result.andThen_ok, sliced, Int.toNat_natCast]
    congr 2
    by_cases hc1 : c = k
    · subst hc1; simp
    · rw [if_neg hc1, if_neg hc1]
      simp [Addr.add]
  · rw [if_neg (by omega)]
    obtain ⟨b2, off2, e2, hc2⟩ := h.2 (by omega)
    injection e2 with e2
    injection e2 with e3 e4
    subst e3; subst e4
    refine ⟨b, off + k, rfl, fun j hj => ?_⟩
    have h3 := hc2 (k + j) (by omega)
    rw [show off + k + j = off + (k + j) from by omega, h3]
    congr 2
    simp [List.getD, List.getElem?_drop]
set_option maxRecDepth 100000 in
set_option maxHeartbeats 8000000 in
theorem halves_law (P : TreeP) (raw : List ByteArray) (a : Option Addr) (n0 cap : Nat) (hn : n0 ≤ 9223372036854775807) (hsz : ∀ x ∈ raw, x.size ≤ 9223372036854775807) (H i : Int) (hH : -9223372036854775808 ≤ H ∧ H ≤ 9223372036854775807) (hi : -9223372036854775808 ≤ i ∧ i ≤ 9223372036854775807)
    (w : World) (hl : Strs w a n0 raw) (hT : Tab w) :
    Calls Tryd.prog 9 #[.slice a n0 cap, .int .i64 H, .int .i64 i] w fun e w' => e = .returned (.bool true) ∧ Below w.heap.size w w' := by
  obtain ⟨r, hr, hp4, hp⟩ := height_up H hH
  obtain ⟨s, hs⟩ : ∃ s, r + 1 = s := ⟨_, rfl⟩
  obtain ⟨L, hL⟩ : ∃ L, leavesTo raw (2 ^ (r + 1)) = L := ⟨_, rfl⟩
  obtain ⟨N, hN⟩ : ∃ N, 2 ^ (r + 1) = N := ⟨_, rfl⟩
  obtain ⟨n, hn2⟩ : ∃ n, 2 ^ r = n := ⟨_, rfl⟩
  have hNn : N = 2 * n := by rw [← hN, ← hn2, Nat.pow_succ, Nat.mul_comm]
  have hN16 : N ≤ 16 := by rw [← hN]; exact pow16 (r + 1) (by omega)
  have hn1 : 0 < n := by rw [← hn2]; exact Nat.pow_pos (by omega)
  have hLl : L.length = N := by rw [← hL, leavesTo_len, hN]
  have hL32 : ∀ y ∈ L, y.size = 32 := by rw [← hL]; exact leavesTo_size _ _
  obtain ⟨q, hq, hpq⟩ := pick_any i N (by omega) (by omega) hi.1 hi.2
  have hsm := small32 (fun y hy => Nat.le_of_eq (hL32 y hy))
  obtain ⟨A, hA⟩ : ∃ A, L.take n = A := ⟨_, rfl⟩
  obtain ⟨B, hB⟩ : ∃ B, L.drop n = B := ⟨_, rfl⟩
  have hAB : L = A ++ B := by rw [← hA, ← hB, List.take_append_drop]
  have hAl : A.length = 2 ^ r := by rw [← hA, List.length_take, hn2]; omega
  have hBl : B.length = 2 ^ r := by rw [← hB, List.length_drop, hn2]; omega
  have hsA : ∀ x ∈ A, ∀ y ∈ A, x.size + y.size ≤ TM := fun x hx y hy => hsm x (by rw [hAB]; exact List.mem_append_left _ hx) y (by rw [hAB]; exact List.mem_append_left _ hy)
  have hsB : ∀ x ∈ B, ∀ y ∈ B, x.size + y.size ≤ TM := fun x hx y hy => hsm x (by rw [hAB]; exact List.mem_append_right _ hx) y (by rw [hAB]; exact List.mem_append_right _ hy)
  obtain ⟨RA, hRA⟩ : ∃ R, rootB A = R := ⟨_, rfl⟩
  obtain ⟨RB, hRB⟩ : ∃ R, rootB B = R := ⟨_, rfl⟩
  obtain ⟨R, hR⟩ : ∃ R, rootB L = R := ⟨_, rfl⟩
  have hRA' := root_pow A r (by omega) hAl
  have hRB' := root_pow B r (by omega) hBl
  rw [hRA] at hRA'
  rw [hRB] at hRB'
  have hRn : nodeB RA RB = R := by
    rw [← hR, root_pow L (r + 1) (by omega) (by rw [hLl, hN]), hAB, halves_up r A B hAl hBl, ← hRA', ← hRB']
  have hRs : RA.size ≤ 32 ∧ RB.size ≤ 32 := by
    have h : ∀ (k : Nat) (M : List ByteArray), (∀ y ∈ M, y.size ≤ 32) → ∀ y ∈ upB k M, y.size ≤ 32 := fun k => by
      cases k with
      | zero => intro M hM; exact hM
      | succ k => intro M _ y hy; rw [up_succ] at hy; rw [above_size _ y hy]; omega
    rw [hRA', hRB']
    exact ⟨getD_le (h r A (fun y hy => Nat.le_of_eq (hL32 y (by rw [hAB]; exact List.mem_append_left _ hy)))) 0, getD_le (h r B (fun y hy => Nat.le_of_eq (hL32 y (by rw [hAB]; exact List.mem_append_right _ hy)))) 0⟩
  obtain ⟨D, hD⟩ : ∃ D, pathB L (q : Int) = D := ⟨_, rfl⟩
  have hDp : D = pathUp (r + 1) L q := by rw [← hD]; exact path_pow L (r + 1) q (by omega) (by rw [hLl, hN]) (by omega)
  have hDl : D.length = r + 1 := by rw [hDp, path_len]
  have hD0 : D.getD 0 .empty = L.getD (sib q) .empty := by rw [hDp]; rfl
  obtain ⟨O, hO⟩ : ∃ O : ByteArray, (if n ≤ q then RA else RB) = O := ⟨_, rfl⟩
  have hDr : D.getD r .empty = O := by
    have h := last_getD D (by omega)
    rw [hDl, Nat.add_sub_cancel] at h
    rw [h, hDp, hAB, path_other r A B q hAl hBl (by rw [hN]; exact hq), ← hO, hn2, ← hRA', ← hRB']
  obtain ⟨k, hk⟩ : ∃ k, sib q = k := ⟨_, rfl⟩
  have hkN : k < N := by rw [← hk]; unfold sib; split <;> omega
  obtain ⟨Z, hZ⟩ : ∃ Z, L.getD k .empty = Z := ⟨_, rfl⟩
  rw [hk, hZ] at hD0
  have HLv := Lib.hid (fun w hl => leaves_any raw a n0 cap hn hsz ((r + 1 : Nat) : Int) (r + 1) (by omega) hp w hl)
  rw [hL, hs] at HLv
  have HQ := Lib.hid hpq
  have HQ4 := Lib.hid hp4
  have HR := Lib.hid (fun a c w hs ht => P.root L a N c w (by omega) hsm hs ht)
  rw [hR] at HR
  have HRA := Lib.hid (fun a c w hs ht => P.root A a n c w (by omega) hsA hs ht)
  rw [hRA] at HRA
  have HRB := Lib.hid (fun a c w hs ht => P.root B a n c w (by omega) hsB hs ht)
  rw [hRB] at HRB
  have HNd := Lib.hid (fun w ht => P.node RA RB w (by unfold TM; omega) ht)
  rw [hRn] at HNd
  have HPt := Lib.hid (fun a c w hs ht => P.path L a N c (q : Int) w (by omega) (by omega) hsm hs ht)
  rw [hD] at HPt
  have HAe := Lib.hid hA
  have HBe := Lib.hid hB
  have HD := Lib.hid (And.intro hD0 hDr)
  have HOe := Lib.hid hO
  have HZe := Lib.hid hZ
  have hr1 : 1 + (r : Int) = (s : Int) := by omega
  have hr1w : IntKind.i64.wrap (s : Int) = (s : Int) := by rw [IntKind.wrap_i64]; omega
  have hsr : (s : Int) - 1 = (r : Int) := by omega
  have hrw : IntKind.i64.wrap (r : Int) = (r : Int) := by rw [IntKind.wrap_i64]; omega
  have hrs : (r : Int) < (s : Int) := by omega
  have hr0 : (0 : Int) ≤ (r : Int) := by omega
  have hkNi : (k : Int) < (N : Int) := by omega
  have hk0 : (0 : Int) ≤ (k : Int) := by omega
  have hs0 : (0 : Int) < (s : Int) := by omega
  have hs1 : 0 < s := by omega
  have hs2 : (1 : Int) ≤ (s : Int) := by omega
  have hs3 : 1 ≤ s := by omega
  obtain ⟨m, hm⟩ : ∃ m, q % 2 = m := ⟨_, rfl⟩
  obtain ⟨u1, hu1⟩ : ∃ u, q - m = u := ⟨_, rfl⟩
  obtain ⟨u2, hu2⟩ : ∃ u, u1 + 1 = u := ⟨_, rfl⟩
  have hm2 : (q : Int).tmod 2 = (m : Int) := by rw [Int.tmod_eq_emod_of_nonneg (by omega)]; omega
  have hmw : IntKind.i64.wrap (m : Int) = (m : Int) := by rw [IntKind.wrap_i64]; omega
  have hv1 : (q : Int) - (m : Int) = (u1 : Int) := by omega
  have hv1w : IntKind.i64.wrap (u1 : Int) = (u1 : Int) := by rw [IntKind.wrap_i64]; omega
  have hv2 : (u1 : Int) + 1 = (u2 : Int) := by omega
  have hv2w : IntKind.i64.wrap (u2 : Int) = (u2 : Int) := by rw [IntKind.wrap_i64]; omega
  have hv3 : (u2 : Int) - (m : Int) = (k : Int) := by
    have h : u2 - m = k := by rw [← hk, ← hu2, ← hu1, ← hm]; unfold sib; split <;> omega
    omega
  have hv3w : IntKind.i64.wrap (k : Int) = (k : Int) := by rw [IntKind.wrap_i64]; omega
  have hq0 : (0 : Int) ≤ (q : Int) := by omega
  have hNd : (N : Int).tdiv 2 = (n : Int) := by rw [Int.tdiv_eq_ediv_of_nonneg (by omega)]; omega
  have hnw : IntKind.i64.wrap (n : Int) = (n : Int) := by rw [IntKind.wrap_i64]; omega
  have hNd' : (N : Int) / 2 = (n : Int) := by omega
  have HLl := Lib.hid (And.intro hLl (hDl.trans hs))
  have HN := Lib.hid (And.intro (hs ▸ hN : 2 ^ s = N) (And.intro hn2 hNn))
  have HKs := Lib.hid (And.intro hkN hs)
  have HL := Lib.hid hl
  have HT := Lib.hid hT
  have Hk := Lib.hid hk
  clear hp hp4 hL hN hL32 hpq hsm hA hB hAB hAl hBl hsA hsB hRA hRB hR hRA' hRB' hRn hRs hD hDp hDl hD0 hDr hO hZ hk hLl hl hT hsz hH hi hNn hn2 hs hm hu1 hu2 hkN
  go_enter Tryd.func9, Tryd.ntmps9
  go_wp2_with fail
  refine (awake_any P w HT.out).mono ?_
  rintro e w1 ⟨rfl, h1⟩
  have T1 := Lib.hid (tab_below HT.out h1)
  have L1 := Lib.hid (HL.out.below h1)
  have B1 := Lib.hid h1
  clear h1
  go_wp2_with fail
  refine (HQ4.out w1).mono ?_
  rintro e w1 ⟨rfl, rfl⟩
  go_wp2_with fail
  refine (HLv.out _ L1.out).mono ?_
  rintro e w2 ⟨a2, c2, rfl, hs2, h2, _, hcap2⟩
  rw [HLl.out.1] at hs2 hcap2 ⊢
  have T2 := Lib.hid (tab_below T1.out h2)
  have S2 := Lib.hid hs2
  have B2 := Lib.hid (B1.out.trans (h2.mono B1.out.size))
  obtain ⟨bl, ol, rfl, _⟩ := hs2.2 (by omega)
  have hnN := HN.out.2.2
  obtain ⟨p1, e1, f1⟩ := first_any (some ⟨bl, ol, none⟩) N c2 n (by omega)
  obtain ⟨p2, e2, f2⟩ := from_any bl ol N n c2 (by omega) hcap2
  have F1 := Lib.hid (fun W h => show Strs W p1 n A from HAe.out ▸ f1 W L (by omega) h)
  have F2 := Lib.hid (fun W h => show Strs W p2 n B from by
    have h3 := f2 W L h
    rw [HBe.out, show N - n = n from by omega] at h3
    exact h3)
  rw [show N - n = n from by omega] at e2
  clear hs2 h2 f1 f2 hnN hcap2
  go_wp2_with fail
  refine (HRA.out _ _ w2 (F1.out _ S2.out) T2.out).mono ?_
  rintro e w3 ⟨rfl, h3⟩
  have T3 := Lib.hid (tab_below T2.out h3)
  have S3 := Lib.hid (S2.out.below h3)
  have B3 := Lib.hid (B2.out.trans (h3.mono B2.out.size))
  clear h3
  go_wp2_with fail
  refine (HRB.out _ _ w3 (F2.out _ S3.out) T3.out).mono ?_
  rintro e w4 ⟨rfl, h4⟩
  have T4 := Lib.hid (tab_below T3.out h4)
  have S4 := Lib.hid (S3.out.below h4)
  have B4 := Lib.hid (B3.out.trans (h4.mono B3.out.size))
  clear h4
  go_wp2_with fail
  refine (HQ.out w4).mono ?_
  rintro e w5 ⟨rfl, rfl⟩
  go_wp2_with fail
  refine (HPt.out _ _ _ S4.out T4.out).mono ?_
  rintro e w6 ⟨a6, c6, rfl, hs6, h6, _⟩
  rw [HLl.out.2] at hs6 ⊢
  have T6 := Lib.hid (tab_below T4.out h6)
  have S6 := Lib.hid (S4.out.below h6)
  have D6 := Lib.hid hs6
  have B6 := Lib.hid (B4.out.trans (h6.mono B4.out.size))
  clear hs6 h6
  obtain ⟨bd, od, rfl, hcd⟩ := D6.out.2 (by omega)
  have x1 := hcd 0 (by omega)
  have x2 := hcd r (by omega)
  rw [HD.out.1] at x1
  rw [HD.out.2] at x2
  rw [Nat.add_zero] at x1
  obtain ⟨b9, o9, e9, hcl⟩ := S6.out.2 (by omega)
  injection e9 with e9
  injection e9 with e91 e92
  subst e91; subst e92
  have x3 := hcl k HKs.out.1
  rw [HZe.out] at x3
  clear hcd hcl
  by_cases hnq : n ≤ q
  · have hnqi : (n : Int) ≤ (q : Int) := by omega
    obtain rfl : RA = O := by rw [← HOe.out, if_pos hnq]
    clear hnq
    go_upto_region 13 with fail
    go_loopw [14, 15] (fun x y wr => ∃ j t : Nat, j ≤ s ∧ x = .int .i64 (j : Int) ∧ y = .int .i64 (t : Int) ∧ Hid (t = 2 ^ (s - j)) ∧ w6 = wr) (fun _ y _ => (intOf y).toNat)
    case atStart => exact ⟨0, N, by omega, rfl, rfl, HN.out.1.symm, rfl⟩
    case round =>
      obtain ⟨j, t, hj, rfl, rfl, Ht, rfl⟩ := hrel
      by_cases hlt : j < s
      · obtain ⟨t2, ht2⟩ : ∃ t2, 2 ^ (s - (j + 1)) = t2 := ⟨_, rfl⟩
        have htt : t = 2 * t2 := by rw [Ht.out, ← ht2, show s - j = (s - (j + 1)) + 1 from by omega, Nat.pow_succ, Nat.mul_comm]
        have ht1 : 0 < t2 := by rw [← ht2]; exact Nat.pow_pos (by omega)
        have ht16 : t ≤ 16 := by rw [Ht.out]; have : 2 ^ (s - j) ≤ 2 ^ 4 := Nat.pow_le_pow_right (by omega) (by have := HKs.out.2; omega); omega
        have htd : (t : Int).tdiv 2 = (t2 : Int) := by rw [Int.tdiv_eq_ediv_of_nonneg (by omega)]; omega
        have htd' : (t : Int) / 2 = (t2 : Int) := by omega
        have htw : IntKind.i64.wrap (t2 : Int) = (t2 : Int) := by rw [IntKind.wrap_i64]; omega
        have hti : (1 : Int) < (t : Int) := by omega
        have hlt2 : t2 < t := by omega
        have Ht2 := Lib.hid ht2.symm
        have hjs : j + 1 ≤ s := hlt
        have hj5 : j + 1 ≤ 100 := by have := HKs.out.2; omega
        clear htt ht2 Ht ht16 hlt
        go_wp2_with fail
        go_roundw
        case rel => exact ⟨j + 1, t2, hjs, by first | rfl | go_num, rfl, Ht2, by first | rfl | trivial⟩
        case measure => simp [intOf]; omega
      · obtain rfl : j = s := by omega
        obtain rfl : t = 1 := by rw [Ht.out, Nat.sub_self]
        clear hlt Ht
        have hself := text_self R
        have hselfO := text_self RA
        have hselfZ := text_self Z
        go_upto_region 16 with fail
        go_region_held3 (fun w' => w'.cell? ⟨bd, od, none⟩ = some (.string Z) ∧ w'.cell? ⟨bd, od + r, none⟩ = some (.string RA) ∧ w'.cell? ⟨bl, ol + k, none⟩ = some (.string Z)) ((first | exact ⟨x1, x2, x3⟩ | exact ⟨y1, y2, y3⟩ | exact ⟨z1, z2, z3⟩)) ((first
          | (go_at_call 13; refine (HR.out _ _ _ (by first | exact S6.out | exact S6.out.below ((Below.refl _ _).drew)) (by first | exact T6.out | exact tab_below T6.out ((Below.refl _ _).drew))).mono ?_; rintro e w7 ⟨rfl, h7⟩; have h7 : Below w6.heap.size w6 w7 := (by first | exact h7 | exact below_of_drew h7); have T7 := Lib.hid (tab_below T6.out h7); have B7 := Lib.hid (B6.out.trans (h7.mono B6.out.size)); have y1 := (h7.cell (p := ⟨bd, od, none⟩) (block_lt_of_cell x1)).trans x1; have y2 := (h7.cell (p := ⟨bd, od + r, none⟩) (block_lt_of_cell x2)).trans x2; have y3 := (h7.cell (p := ⟨bl, ol + k, none⟩) (block_lt_of_cell x3)).trans x3; clear h7)
          | (go_at_call 29; refine (HNd.out _ (by first | exact T7.out | exact tab_below T7.out ((Below.refl _ _).drew))).mono ?_; rintro e w8 ⟨rfl, h8⟩; have h8 : Below w7.heap.size w7 w8 := (by first | exact h8 | exact below_of_drew h8); have B8 := Lib.hid (B7.out.trans (h8.mono B7.out.size)); have z1 := (h8.cell (p := ⟨bd, od, none⟩) (block_lt_of_cell y1)).trans y1; have z2 := (h8.cell (p := ⟨bd, od + r, none⟩) (block_lt_of_cell y2)).trans y2; have z3 := (h8.cell (p := ⟨bl, ol + k, none⟩) (block_lt_of_cell y3)).trans y3; clear h8)))
        all_goals
          go_wp2_with fail
          go_ret
          exact ⟨rfl, B8.out⟩
  · have hnqi : ¬ (n : Int) ≤ (q : Int) := by omega
    obtain rfl : RB = O := by rw [← HOe.out, if_neg hnq]
    clear hnq
    go_upto_region 13 with fail
    go_loopw [14, 15] (fun x y wr => ∃ j t : Nat, j ≤ s ∧ x = .int .i64 (j : Int) ∧ y = .int .i64 (t : Int) ∧ Hid (t = 2 ^ (s - j)) ∧ w6 = wr) (fun _ y _ => (intOf y).toNat)
    case atStart => exact ⟨0, N, by omega, rfl, rfl, HN.out.1.symm, rfl⟩
    case round =>
      obtain ⟨j, t, hj, rfl, rfl, Ht, rfl⟩ := hrel
      by_cases hlt : j < s
      · obtain ⟨t2, ht2⟩ : ∃ t2, 2 ^ (s - (j + 1)) = t2 := ⟨_, rfl⟩
        have htt : t = 2 * t2 := by rw [Ht.out, ← ht2, show s - j = (s - (j + 1)) + 1 from by omega, Nat.pow_succ, Nat.mul_comm]
        have ht1 : 0 < t2 := by rw [← ht2]; exact Nat.pow_pos (by omega)
        have ht16 : t ≤ 16 := by rw [Ht.out]; have : 2 ^ (s - j) ≤ 2 ^ 4 := Nat.pow_le_pow_right (by omega) (by have := HKs.out.2; omega); omega
        have htd : (t : Int).tdiv 2 = (t2 : Int) := by rw [Int.tdiv_eq_ediv_of_nonneg (by omega)]; omega
        have htd' : (t : Int) / 2 = (t2 : Int) := by omega
        have htw : IntKind.i64.wrap (t2 : Int) = (t2 : Int) := by rw [IntKind.wrap_i64]; omega
        have hti : (1 : Int) < (t : Int) := by omega
        have hlt2 : t2 < t := by omega
        have Ht2 := Lib.hid ht2.symm
        have hjs : j + 1 ≤ s := hlt
        have hj5 : j + 1 ≤ 100 := by have := HKs.out.2; omega
        clear htt ht2 Ht ht16 hlt
        go_wp2_with fail
        go_roundw
        case rel => exact ⟨j + 1, t2, hjs, by first | rfl | go_num, rfl, Ht2, by first | rfl | trivial⟩
        case measure => simp [intOf]; omega
      · obtain rfl : j = s := by omega
        obtain rfl : t = 1 := by rw [Ht.out, Nat.sub_self]
        clear hlt Ht
        have hself := text_self R
        have hselfO := text_self RB
        have hselfZ := text_self Z
        go_upto_region 16 with fail
        go_region_held3 (fun w' => w'.cell? ⟨bd, od, none⟩ = some (.string Z) ∧ w'.cell? ⟨bd, od + r, none⟩ = some (.string RB) ∧ w'.cell? ⟨bl, ol + k, none⟩ = some (.string Z)) ((first | exact ⟨x1, x2, x3⟩ | exact ⟨y1, y2, y3⟩ | exact ⟨z1, z2, z3⟩)) ((first
          | (go_at_call 13; refine (HR.out _ _ _ (by first | exact S6.out | exact S6.out.below ((Below.refl _ _).drew)) (by first | exact T6.out | exact tab_below T6.out ((Below.refl _ _).drew))).mono ?_; rintro e w7 ⟨rfl, h7⟩; have h7 : Below w6.heap.size w6 w7 := (by first | exact h7 | exact below_of_drew h7); have T7 := Lib.hid (tab_below T6.out h7); have B7 := Lib.hid (B6.out.trans (h7.mono B6.out.size)); have y1 := (h7.cell (p := ⟨bd, od, none⟩) (block_lt_of_cell x1)).trans x1; have y2 := (h7.cell (p := ⟨bd, od + r, none⟩) (block_lt_of_cell x2)).trans x2; have y3 := (h7.cell (p := ⟨bl, ol + k, none⟩) (block_lt_of_cell x3)).trans x3; clear h7)
          | (go_at_call 29; refine (HNd.out _ (by first | exact T7.out | exact tab_below T7.out ((Below.refl _ _).drew))).mono ?_; rintro e w8 ⟨rfl, h8⟩; have h8 : Below w7.heap.size w7 w8 := (by first | exact h8 | exact below_of_drew h8); have B8 := Lib.hid (B7.out.trans (h8.mono B7.out.size)); have z1 := (h8.cell (p := ⟨bd, od, none⟩) (block_lt_of_cell y1)).trans y1; have z2 := (h8.cell (p := ⟨bd, od + r, none⟩) (block_lt_of_cell y2)).trans y2; have z3 := (h8.cell (p := ⟨bl, ol + k, none⟩) (block_lt_of_cell y3)).trans y3; clear h8)))
        all_goals
          go_wp2_with fail
          go_ret
          exact ⟨rfl, B8.out⟩
end Go.Proofs.YtdkjlijmejleoaaDoor.Sp
