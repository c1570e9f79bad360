/- The walk of TreeSiblings. -/
import Derived.Test.YtdkjlijmejleoaaDoorTreClimbsW
namespace Go.Proofs.YtdkjlijmejleoaaDoor.Sp
open Go Go.RowKit

theorem pick_lt (d n : Nat) (h : d < n) (hn2 : n ≤ 9223372036854775807) (w : World) :
    Calls Tryd.prog 25 #[.int .i64 (d : Int), .int .i64 (n : Int)] w fun e w' => e = .returned (.int .i64 (d : Int)) ∧ w = w' := by
  have hne : ¬ (n : Int) = 0 := by omega
  have hd0 : (0 : Int) ≤ (d : Int) := by omega
  have htm : (d : Int).tmod (n : Int) = (d : Int) := by rw [Int.tmod_eq_emod_of_nonneg hd0, Int.emod_eq_of_lt hd0 (by omega)]
  have hw3 : IntKind.i64.wrap (d : Int) = (d : Int) := by rw [IntKind.wrap_i64]; omega
  go_enter Tryd.func25, Tryd.ntmps25
  go_wp2_with fail
  go_ret
  exact ⟨rfl, rfl⟩
/-- A list without its first text. -/
theorem rest_any (b off n c : Nat) (hc : n + 1 ≤ c) : ∃ p : Option Addr, (∀ W : World, (Instr.slice 22 (.slice (some ⟨b, off, none⟩) (n + 1) c) (some (.int .i64 1)) none none).run Tryd.prog W = .ok (.slice p n (c - 1)) W) ∧
    ∀ (W : World) (x : ByteArray) (l : List ByteArray), Strs W (some ⟨b, off, none⟩) (n + 1) (x :: l) → Strs W p n l := by
  refine ⟨some (if c = 1 then ⟨b, off, none⟩ else ⟨b, off + 1, none⟩), fun W => ?_, fun W x l h => ⟨by have := h.1; simpa using this, fun hp => ?_⟩⟩
  · have h := run_slice_l (P := Tryd.prog) W 22 (some ⟨b, off, none⟩) (n + 1) c Tryd.underlying22 .i64 1 (by omega) (by omega)
    rw [h]
    have hz : (sizeOf (Tryd.prog.elem 22)).run Tryd.prog W = .ok 1 W := Tryd.sizeOf9 W
    rw [hz]
    simp only [Result.andThen_ok, sliced]
    congr 2
    by_cases hc1 : c = 1
    · subst hc1; simp
    · rw [if_neg hc1, if_neg (by simpa using hc1)]
      simp [Addr.add]
  · rw [if_neg (by omega)]
    obtain ⟨b2, off2, e2, hc2⟩ := h.2 (by omega)
    injection e2 with e2
    injection e2 with e3 e4
    subst e3; subst e4
    refine ⟨b, off + 1, rfl, fun j hj => ?_⟩
    have h3 := hc2 (j + 1) (by omega)
    rw [show off + 1 + j = off + (j + 1) from by omega]
    simpa using h3
/-- What 1 + pick(h, 4) comes to: a height from 1 to 4. -/
theorem height_up (H : Int) (h0 : -9223372036854775808 ≤ H ∧ H ≤ 9223372036854775807) :
    ∃ r : Nat, r < 4 ∧ (∀ w, Calls Tryd.prog 25 #[.int .i64 H, .int .i64 4] w fun e w' => e = .returned (.int .i64 (r : Int)) ∧ w = w') ∧
      ∀ w, Calls Tryd.prog 25 #[.int .i64 ((r + 1 : Nat) : Int), .int .i64 5] w fun e w' => e = .returned (.int .i64 ((r + 1 : Nat) : Int)) ∧ w = w' := by
  obtain ⟨r, h1, h2⟩ := pick_any H 4 (by omega) (by omega) h0.1 h0.2
  exact ⟨r, h1, h2, fun w => pick_lt (r + 1) 5 (by omega) (by omega) w⟩

set_option maxRecDepth 100000 in
set_option maxHeartbeats 4000000 in
theorem sibs_law (P : TreeP) (raw : List ByteArray) (a : Option Addr) (n cap : Nat) (hn : n ≤ 9223372036854775807) (hsz : ∀ x ∈ raw, x.size ≤ 9223372036854775807) (H i : Int) (hH : -9223372036854775808 ≤ H ∧ H ≤ 9223372036854775807) (hi : -9223372036854775808 ≤ i ∧ i ≤ 9223372036854775807)
    (w : World) (hl : Strs w a n raw) (hT : Tab w) :
    Calls Tryd.prog 11 #[.slice a n cap, .int .i64 H, .int .i64 i] w fun e w' => e = .returned (.bool true) ∧ Below w.heap.size w w' := by
  obtain ⟨r, hr, hp4, hp⟩ := height_up H hH
  obtain ⟨L, hL⟩ : ∃ L, leavesTo raw (2 ^ (r + 1)) = L := ⟨_, rfl⟩
  obtain ⟨N, hN⟩ : ∃ N, 2 ^ (r + 1) = N := ⟨_, rfl⟩
  have hN16 : N ≤ 16 := by rw [← hN]; exact pow16 (r + 1) (by omega)
  have hN2 : N % 2 = 0 ∧ 0 < N := by rw [← hN]; exact ⟨(pow_half _ r rfl).1, Nat.pow_pos (by omega)⟩
  have hLl : L.length = N := by rw [← hL, leavesTo_len, hN]
  have hL32 : ∀ y ∈ L, y.size = 32 := by rw [← hL]; exact leavesTo_size _ _
  obtain ⟨q, hq, hpq⟩ := pick_any i N hN2.2 (by omega) hi.1 hi.2
  obtain ⟨k, hk⟩ : ∃ k, sib q = k := ⟨_, rfl⟩
  have hkN : k < N := by rw [← hk]; unfold sib; split <;> omega
  have hki : (q : Int) + 1 - 2 * ((q % 2 : Nat) : Int) = (k : Int) := by rw [← hk]; unfold sib; split <;> omega
  have hsm := small32 (fun y hy => Nat.le_of_eq (hL32 y hy))
  obtain ⟨X, hX⟩ : ∃ X, L.getD q .empty = X := ⟨_, rfl⟩
  obtain ⟨Y, hY⟩ : ∃ Y, L.getD k .empty = Y := ⟨_, rfl⟩
  obtain ⟨D, hD⟩ : ∃ D, (pathUp (r + 1) L q).drop 1 = D := ⟨_, rfl⟩
  have hDl : D.length = r := by rw [← hD, List.length_drop, path_len]; omega
  have hA : pathB L (q : Int) = Y :: D := by
    rw [path_pow L (r + 1) q (by omega) (by rw [hLl, hN]) (by omega), ← hD, ← hY, ← hk]; rfl
  have hB : pathB L (k : Int) = X :: D := by
    rw [path_pow L (r + 1) k (by omega) (by rw [hLl, hN]) (by omega), ← hD, path_sib, hk, ← hX]
    show L.getD (sib k) .empty :: _ = _
    rw [← hk, sib_sib]; rfl
  have HLv := Lib.hid (fun w hl => leaves_any raw a n cap hn hsz ((r + 1 : Nat) : Int) (r + 1) (by omega) hp w hl)
  rw [hL] at HLv
  have HQ := Lib.hid hpq
  have HQ4 := Lib.hid hp4
  have HP1 := Lib.hid (fun a c w hs ht => P.path L a N c (q : Int) w (by omega) (by omega) hsm hs ht)
  rw [hA] at HP1
  have HP2 := Lib.hid (fun a c w hs ht => P.path L a N c (k : Int) w (by omega) (by omega) hsm hs ht)
  rw [hB] at HP2
  have hr1 : 1 + (r : Int) = ((r + 1 : Nat) : Int) := by omega
  have hr1w : IntKind.i64.wrap (((r + 1 : Nat) : Int)) = ((r + 1 : Nat) : Int) := by rw [IntKind.wrap_i64]; omega
  have hq0 : (0 : Int) ≤ (q : Int) := by omega
  obtain ⟨m, hm⟩ : ∃ m, q % 2 = m := ⟨_, rfl⟩
  obtain ⟨t, ht⟩ : ∃ t, 2 * m = t := ⟨_, rfl⟩
  obtain ⟨u, hu⟩ : ∃ u, q + 1 = u := ⟨_, rfl⟩
  have hm2 : (q : Int).tmod 2 = (m : Int) := by rw [Int.tmod_eq_emod_of_nonneg hq0]; omega
  have hti : 2 * (m : Int) = (t : Int) := by omega
  have htw : IntKind.i64.wrap (t : Int) = (t : Int) := by rw [IntKind.wrap_i64]; omega
  have hui : (q : Int) + 1 = (u : Int) := by omega
  have huw : IntKind.i64.wrap (u : Int) = (u : Int) := by rw [IntKind.wrap_i64]; omega
  have hut : IntKind.i64.wrap ((u : Int) - (t : Int)) = (k : Int) := by rw [IntKind.wrap_i64]; omega
  have hmw : IntKind.i64.wrap (m : Int) = (m : Int) := by rw [IntKind.wrap_i64]; omega
  have hQN := Lib.hid (And.intro hq hkN)
  have HXY := Lib.hid (And.intro hX hY)
  have HLl := Lib.hid (And.intro hLl hDl)
  have HL := Lib.hid hl
  have HT := Lib.hid hT
  clear hp hp4 hL hN hL32 hpq hsm hX hY hD hDl hA hB hLl hl hT hsz hH hi hN2 hk hki hm ht hu
  go_enter Tryd.func11, Tryd.ntmps11
  go_wp2_with fail
  refine (awake_any P w HT.out).mono ?_
  rintro e w1 ⟨rfl, h1⟩
  have T1 := Lib.hid (tab_below HT.out h1)
  have L1 := Lib.hid (HL.out.below h1)
  have B1 := Lib.hid h1
  clear h1
  go_wp2_with fail
  refine (HQ4.out w1).mono ?_
  rintro e w1 ⟨rfl, rfl⟩
  go_wp2_with fail
  refine (HLv.out _ L1.out).mono ?_
  rintro e w2 ⟨a2, c2, rfl, hs2, h2, _⟩
  rw [HLl.out.1] at hs2 ⊢
  have T2 := Lib.hid (tab_below T1.out h2)
  have S2 := Lib.hid hs2
  have B2 := Lib.hid (B1.out.trans (h2.mono B1.out.size))
  clear hs2 h2
  go_wp2_with fail
  refine (HQ.out w2).mono ?_
  rintro e w3 ⟨rfl, rfl⟩
  go_wp2_with fail
  refine (HP1.out _ _ _ S2.out T2.out).mono ?_
  rintro e w4 ⟨a4, c4, rfl, hs4, h4, _, hcap4⟩
  have T4 := Lib.hid (tab_below T2.out h4)
  have S4 := Lib.hid (S2.out.below h4)
  have A4 := Lib.hid hs4
  have B4 := Lib.hid (B2.out.trans (h4.mono B2.out.size))
  clear hs4 h4
  go_wp2_with fail
  refine (HP2.out _ _ _ S4.out T4.out).mono ?_
  rintro e w5 ⟨a5, c5, rfl, hs5, h5, _, hcap5⟩
  have T5 := Lib.hid (tab_below T4.out h5)
  have S5 := Lib.hid (S4.out.below h5)
  have A5 := Lib.hid (A4.out.below h5)
  have D5 := Lib.hid hs5
  have B5 := Lib.hid (B4.out.trans (h5.mono B4.out.size))
  clear hs5 h5
  simp only [List.length_cons, HLl.out.2] at A5 D5 hcap4 hcap5
  simp only [List.length_cons, HLl.out.2]
  obtain ⟨ba, oa, rfl, hca⟩ := A5.out.2 (by omega)
  obtain ⟨bd, od, rfl, hcd⟩ := D5.out.2 (by omega)
  obtain ⟨bl, ol, rfl, hcl⟩ := S5.out.2 (by omega)
  have x1 := hca 0 (by omega)
  have x2 := hcd 0 (by omega)
  have x3 := hcl q hQN.out.1
  have x4 := hcl k hQN.out.2
  rw [HXY.out.1] at x3
  rw [HXY.out.2] at x4
  simp only [List.getD_cons_zero, Nat.add_zero] at x1 x2
  have hsx := text_self X
  have hsy := text_self Y
  have hqN : (q : Int) < (N : Int) := by omega
  have hkN : (k : Int) < (N : Int) := by omega
  have hk0 : (0 : Int) ≤ (k : Int) := by omega
  obtain ⟨p4, e4, f4⟩ := rest_any ba oa r c4 hcap4
  obtain ⟨p5, e5, f5⟩ := rest_any bd od r c5 hcap5
  have F4 := Lib.hid f4
  have F5 := Lib.hid f5
  have HTx := Lib.hid (fun W h1 h2 => texts_any D D p4 p5 r r (c4 - 1) (c5 - 1) W h1 h2 (by omega) true ⟨fun _ => rfl, fun _ => rfl⟩)
  clear hca hcd hcl hcap4 hcap5 f4 f5
  go_wp2_with fail
  go_region_held3 (fun w' => w'.cell? ⟨bl, ol + q, none⟩ = some (.string X) ∧ w'.cell? ⟨bl, ol + k, none⟩ = some (.string Y) ∧ w'.cell? ⟨ba, oa, none⟩ = some (.string Y) ∧ w'.cell? ⟨bd, od, none⟩ = some (.string X)) ((first | exact ⟨x3, x4, x1, x2⟩ | exact ⟨y1, y2, y3, y4⟩)) ((go_at_call 15; refine (HTx.out _ (F4.out _ Y D (by first | exact A5.out | exact A5.out.below ((Below.refl _ _).drew))) (F5.out _ X D (by first | exact D5.out | exact D5.out.below ((Below.refl _ _).drew)))).mono ?_; rintro e w6 ⟨rfl, h6⟩; have h6 : Below w5.heap.size w5 w6 := (by first | exact h6 | exact below_of_drew h6); have y1 := (h6.cell (p := ⟨bl, ol + q, none⟩) (block_lt_of_cell x3)).trans x3; have y2 := (h6.cell (p := ⟨bl, ol + k, none⟩) (block_lt_of_cell x4)).trans x4; have y3 := (h6.cell (p := ⟨ba, oa, none⟩) (block_lt_of_cell x1)).trans x1; have y4 := (h6.cell (p := ⟨bd, od, none⟩) (block_lt_of_cell x2)).trans x2; have B6 := Lib.hid (B5.out.trans (h6.mono B5.out.size)); clear h6))
  all_goals
    go_wp2_with fail
    go_ret
    exact ⟨rfl, B6.out⟩
end Go.Proofs.YtdkjlijmejleoaaDoor.Sp
