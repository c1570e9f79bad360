/- The walk of TreeSound. -/
import Derived.Test.YtdkjlijmejleoaaDoorTreRootsW
namespace Go.Proofs.YtdkjlijmejleoaaDoor.Sp
open Go Go.RowKit

theorem path_size : ∀ (h : Nat) (l : List ByteArray) (i : Nat), l.length = 2 ^ h → i < l.length → (∀ y ∈ l, y.size = 32) → ∀ y ∈ pathUp h l i, y.size = 32
  | 0, _, _, _, _, _, _, hy => by cases hy
  | h + 1, l, i, hl, hi, h32, y, hy => by
    obtain ⟨h1, h2⟩ := pow_half l.length h hl
    rw [pathUp] at hy
    rcases List.mem_cons.1 hy with rfl | hy
    · exact h32 _ (getD_mem_ l _ (by unfold sib; split <;> omega))
    · refine path_size h (aboveB l) (i / 2) (by rw [above_len, h2]) (by rw [above_len]; omega) (fun z hz => above_size l z hz) y hy
theorem climbed_size : ∀ (p : List ByteArray) (x : ByteArray) (i : Nat), x.size = 32 → (∀ y ∈ p, y.size = 32) → ∀ z ∈ climbedB x i p, z.size ≤ 73
  | [], _, _, _, _, _, hz => by cases hz
  | y :: p, x, i, hx, hp, z, hz => by
    have hy := hp y (by simp)
    rw [climbedB] at hz
    rcases List.mem_cons.1 hz with rfl | hz
    · split <;> rw [inpB_size, hx, hy] <;> omega
    · refine climbed_size p _ (i / 2) ?_ (fun y hy => hp y (by simp [hy])) z hz
      split <;> exact nodeB_size _ _

set_option maxRecDepth 100000 in
set_option maxHeartbeats 8000000 in
theorem sound_law (P : TreeP) (raw : List ByteArray) (a : Option Addr) (n cap : Nat) (hn : n ≤ 9223372036854775807) (hsz : ∀ x ∈ raw, x.size ≤ 9223372036854775807) (H i : Int) (hH : -9223372036854775808 ≤ H ∧ H ≤ 9223372036854775807) (hi : -9223372036854775808 ≤ i ∧ i ≤ 9223372036854775807)
    (leaf : ByteArray) (hleaf : leaf.size ≤ 9223372036854775807) (path : List ByteArray) (a1 : Option Addr) (n1 cap1 : Nat) (_hn1 : n1 ≤ 9223372036854775807) (hsz1 : ∀ x ∈ path, x.size ≤ 9223372036854775807) (right : Bool)
    (w : World) (hl : Strs w a n raw) (hl1 : Strs w a1 n1 path) (hT : Tab w) :
    Calls Tryd.prog 6 #[.slice a n cap, .int .i64 H, .int .i64 i, .string leaf, .slice a1 n1 cap1, .bool right] w fun e w' => e = .returned (.bool true) ∧ Below w.heap.size w w' := by
  obtain ⟨r, hr, hp⟩ := height_any H hH
  obtain ⟨L, hL⟩ : ∃ L, leavesTo raw (2 ^ r) = L := ⟨_, rfl⟩
  obtain ⟨N, hN⟩ : ∃ N, 2 ^ r = N := ⟨_, rfl⟩
  have hN16 : N ≤ 16 := by rw [← hN]; exact pow16 r hr
  have hN1 : 0 < N := by rw [← hN]; exact Nat.pow_pos (by omega)
  have hLl : L.length = N := by rw [← hL, leavesTo_len, hN]
  have hL32 : ∀ y ∈ L, y.size = 32 := by rw [← hL]; exact leavesTo_size _ _
  obtain ⟨q, hq, hpq⟩ := pick_any i N hN1 (by omega) hi.1 hi.2
  have hsm := small32 (fun y hy => Nat.le_of_eq (hL32 y hy))
  obtain ⟨X, hX⟩ : ∃ X, fillB leaf 32 = X := ⟨_, rfl⟩
  have hX32 : X.size = 32 := by rw [← hX]; exact fillB_size _ _
  obtain ⟨Y, hY⟩ : ∃ Y, L.getD q .empty = Y := ⟨_, rfl⟩
  obtain ⟨R, hR⟩ : ∃ R, rootB L = R := ⟨_, rfl⟩
  obtain ⟨A, hA⟩ : ∃ A, pathB L (q : Int) = A := ⟨_, rfl⟩
  obtain ⟨I, hI⟩ : ∃ I, inputsB L = I := ⟨_, rfl⟩
  have hAp : A = pathUp r L q := by rw [← hA]; exact path_pow L r q (by omega) (by rw [hLl, hN]) (by omega)
  have hAl : A.length = r := by rw [hAp, path_len]
  have hA32 : ∀ y ∈ A, y.size = 32 := by rw [hAp]; exact path_size r L q (by rw [hLl, hN]) (by omega) hL32
  have hIe : I = inputsUp r L := by rw [← hI]; exact inputs_pow L r (by omega) (by rw [hLl, hN])
  have hIl : I.length ≤ 16 := by rw [hIe, inputs_len r L (by rw [hLl, hN]), hN]; omega
  have hI73 : ∀ z ∈ I, z.size ≤ 73 := by rw [hIe]; exact inputs_size r L (fun y hy => Nat.le_of_eq (hL32 y hy))
  obtain ⟨D, hD⟩ : ∃ D, leavesTo path r = D := ⟨_, rfl⟩
  have hDl : D.length = r := by rw [← hD, leavesTo_len]
  have hD32 : ∀ y ∈ D, y.size = 32 := by rw [← hD]; exact leavesTo_size _ _
  have hsound : ∀ p : List ByteArray, p.length = r → (∀ y ∈ p, y.size = 32) → climbI X (q : Int) p = R → (X = Y ∧ p = A) ∨ ClashIn (I ++ climbedI X (q : Int) p) := fun p hp hp32 hc => by
    rw [hIe, hAp, ← hY]
    unfold climbedI
    refine sound_up r L q X p (by rw [hLl, hN]) (by omega) hp hX32 hL32 hp32 ?_
    rw [← root_pow L r (by omega) (by rw [hLl, hN]), hR, ← hc]
    rfl
  have HLv := Lib.hid (fun w hl => leaves_any raw a n cap hn hsz H r hr hp w hl)
  rw [hL] at HLv
  have HQ := Lib.hid hpq
  have HF := Lib.hid (fill_any leaf hleaf)
  rw [hX] at HF
  have HRt := Lib.hid (fun a c w hs ht => P.root L a N c w (by omega) hsm hs ht)
  rw [hR] at HRt
  have HPt := Lib.hid (fun a c w hs ht => P.path L a N c (q : Int) w (by omega) (by omega) hsm hs ht)
  rw [hA] at HPt
  have HIn := Lib.hid (fun a c w hs ht => P.inputs L a N c w (by omega) hsm hs ht)
  rw [hI] at HIn
  have HCl := Lib.hid (fun (p : List ByteArray) (hp : p.length = r) (hp32 : ∀ y ∈ p, y.size = 32) a c w hs ht => P.climb X (q : Int) p a r c w (by omega) (by omega) (by omega) (fun y hy => by have := hp32 y hy; unfold TM; omega) hs ht)
  have HCd := Lib.hid (fun (p : List ByteArray) (hp : p.length = r) (hp32 : ∀ y ∈ p, y.size = 32) a c w hs ht => P.climbed X (q : Int) p a r c w (by omega) (by omega) (fun y hy => by have := hp32 y hy; unfold TM; omega) hs ht)
  have HSo := Lib.hid hsound
  have HAs := Lib.hid (And.intro hAl hA32)
  have HDs := Lib.hid (And.intro hDl hD32)
  have HIs := Lib.hid (And.intro hIl hI73)
  have HDe := Lib.hid hD
  have HX32 := Lib.hid hX32
  have hqi : (q : Int) < (N : Int) := by omega
  have hq0 : (0 : Int) ≤ (q : Int) := by omega
  have HYe := Lib.hid hY
  have HLl := Lib.hid hLl
  have HL := Lib.hid (And.intro hl hl1)
  have HZ := Lib.hid hsz1
  have HT := Lib.hid hT
  clear hp hL hN hL32 hpq hsm hR hA hAp hA32 hAl hX32 hX hLl hl hT hsz hH hi hN1 hsz1 hl1 hY hI hIe hIl hI73 hD hDl hD32 hsound hleaf
  go_enter Tryd.func6, Tryd.ntmps6
  go_wp2_with fail
  refine (awake_any P w HT.out).mono ?_
  rintro e w1 ⟨rfl, h1⟩
  have T1 := Lib.hid (tab_below HT.out h1)
  have L1 := Lib.hid (And.intro (HL.out.1.below h1) (HL.out.2.below h1))
  have B1 := Lib.hid h1
  clear h1
  go_wp2_with fail
  refine (HLv.out w1 L1.out.1).mono ?_
  rintro e w2 ⟨a2, c2, rfl, hs2, h2, _⟩
  rw [HLl.out] at hs2 ⊢
  have T2 := Lib.hid (tab_below T1.out h2)
  have S2 := Lib.hid hs2
  have P2 := Lib.hid (L1.out.2.below h2)
  have B2 := Lib.hid (B1.out.trans (h2.mono B1.out.size))
  clear hs2 h2
  go_wp2_with fail
  refine (HQ.out w2).mono ?_
  rintro e w3 ⟨rfl, rfl⟩
  go_wp2_with fail
  refine (HPt.out _ _ _ S2.out T2.out).mono ?_
  rintro e w4 ⟨a4, c4, rfl, hs4, h4, _⟩
  rw [HAs.out.1] at hs4 ⊢
  have T4 := Lib.hid (tab_below T2.out h4)
  have S4 := Lib.hid (S2.out.below h4)
  have P4 := Lib.hid (P2.out.below h4)
  have A4 := Lib.hid hs4
  have B4 := Lib.hid (B2.out.trans (h4.mono B2.out.size))
  clear hs4 h4
  go_wp2_with fail
  refine (HF.out w4).mono ?_
  rintro e w5 ⟨rfl, h5⟩
  have T5 := Lib.hid (tab_below T4.out h5)
  have S5 := Lib.hid (S4.out.below h5)
  have P5 := Lib.hid (P4.out.below h5)
  have A5 := Lib.hid (A4.out.below h5)
  have B5 := Lib.hid (B4.out.trans (h5.mono B4.out.size))
  clear h5
  go_wp2_with fail
  go_loopw [17, 18, 19] (fun v y _ wr => ∃ k : Nat, k ≤ r ∧ y = .int .i64 (k : Int) ∧ OwnT wr w5.heap.size v (leavesTo path k) ∧ Below w5.heap.size w5 wr) (fun _ y _ _ => r - (intOf y).toNat)
  case atStart => exact ⟨0, by omega, rfl, World.ownsRow_nil _ _ _ _, Below.refl _ _⟩
  case round =>
    obtain ⟨k, hk, rfl, hown, hbel⟩ := hrel
    have HO := Lib.hid hown
    have HBr := Lib.hid hbel
    have hbz := hbel.size
    clear hown hbel
    by_cases hlt : k < r
    · have hki : (k : Int) < (r : Int) := by omega
      obtain ⟨Z, hZ⟩ : ∃ X, path.getD k ByteArray.empty = X := ⟨_, rfl⟩
      have hZs : Z.size ≤ 9223372036854775807 := by
        rw [← hZ]
        rcases Nat.lt_or_ge k path.length with h | h
        · exact HZ.out _ (getD_mem_ path k h)
        · rw [List.getD_eq_getElem?_getD, List.getElem?_eq_none h]; exact Nat.zero_le _
      have HFz := Lib.hid (fill_any Z hZs)
      have Hnext := Lib.hid (show leavesTo path (k + 1) = leavesTo path k ++ [fillB Z 32] from by rw [leavesTo_succ, hZ])
      obtain ⟨Xs, eXs⟩ : ∃ Xs : List Value, (leavesTo path k).map Value.string = Xs := ⟨_, rfl⟩
      have HOk := Lib.hid (show wr.ownsRow w5.heap.size 9 1 u17 k Xs from by have := HO.out; unfold OwnT at this; rw [leavesTo_len, eXs] at this; exact this)
      have EXs := Lib.hid eXs
      obtain ⟨i0, hi0, hz0, hz1, hz2⟩ := info_parts infoText
      have hk8 : k + 1 ≤ maxLen := by unfold maxLen; omega
      have hkb : (k + 1) * 16 ≤ 140737488355328 := by omega
      have hpl := P5.out.1
      by_cases hkn : k < n1
      · have hkni : (k : Int) < (n1 : Int) := by omega
        have hk0 : (0 : Int) ≤ (k : Int) := by omega
        obtain ⟨b, off, rfl, c1⟩ := P5.out.at_ HBr.out hkn
        rw [hZ] at c1
        clear hZ hkn hlt eXs hZs
        go_wp2_with fail
        refine (HFz.out _).mono ?_
        rintro e w7 ⟨rfl, h7⟩
        have B7 := Lib.hid (HBr.out.trans (h7.mono HBr.out.size))
        have O7 := Lib.hid (own_below HOk.out h7)
        have b7 := B7.out.size
        clear h7
        go_wp2_with (at_builtin; refine wpList_append_own _ rfl (.tmp 48) (.tmp 51) 22 rfl w5.heap.size 9 i0 (.string .empty) 1 16 Tryd.underlying22 hi0 hz0 hz1 hz2 rfl (by decide) u17 k Xs rfl (O7.out.alloc _) ⟨w7.heap.size, 0, none⟩ 1 1 [.string (fillB Z 32)] rfl rfl ?c1 ?c2 ?c3 ?c4 ?c5 ?_)
        case c1 => intro j u hj; exact new_cell _ _ _ hj
        case c2 => intro u hu; simp at hu; subst hu; rfl
        case c3 => exact hk8
        case c4 => exact hkb
        case c5 => simp; omega
        intro v' w8 hown8 hgrow _
        have HO8 := Lib.hid (show OwnT w8 w5.heap.size v' (leavesTo path (k + 1)) from by
          unfold OwnT
          rw [Hnext.out, List.map_append, List.length_append, leavesTo_len, EXs.out]
          exact hown8)
        have HB8 := Lib.hid (show Below w5.heap.size w5 w8 from by
          refine (B7.out.alloc b7 _).grown hgrow (by simp; omega) ?_
          intro k' hk'
          exact (O7.out.lt k' hk').1)
        clear hown8 hgrow hk8 hkb
        go_wp2_with fail
        go_roundw
        case rel => exact ⟨k + 1, by omega, by go_num, HO8.out, HB8.out⟩
        case measure => simp [intOf]; omega
      · have hkni : ¬ (k : Int) < (n1 : Int) := by omega
        have hZe : Z = ByteArray.empty := by rw [← hZ, List.getD_eq_getElem?_getD, List.getElem?_eq_none (by omega)]; rfl
        subst hZe
        clear hZ hkn hlt eXs hZs
        go_wp2_with fail
        refine (HFz.out _).mono ?_
        rintro e w7 ⟨rfl, h7⟩
        have B7 := Lib.hid (HBr.out.trans (h7.mono HBr.out.size))
        have O7 := Lib.hid (own_below HOk.out h7)
        have b7 := B7.out.size
        clear h7
        go_wp2_with (at_builtin; refine wpList_append_own _ rfl (.tmp 48) (.tmp 51) 22 rfl w5.heap.size 9 i0 (.string .empty) 1 16 Tryd.underlying22 hi0 hz0 hz1 hz2 rfl (by decide) u17 k Xs rfl (O7.out.alloc _) ⟨w7.heap.size, 0, none⟩ 1 1 [.string (fillB ByteArray.empty 32)] rfl rfl ?c1 ?c2 ?c3 ?c4 ?c5 ?_)
        case c1 => intro j u hj; exact new_cell _ _ _ hj
        case c2 => intro u hu; simp at hu; subst hu; rfl
        case c3 => exact hk8
        case c4 => exact hkb
        case c5 => simp; omega
        intro v' w8 hown8 hgrow _
        have HO8 := Lib.hid (show OwnT w8 w5.heap.size v' (leavesTo path (k + 1)) from by
          unfold OwnT
          rw [Hnext.out, List.map_append, List.length_append, leavesTo_len, EXs.out]
          exact hown8)
        have HB8 := Lib.hid (show Below w5.heap.size w5 w8 from by
          refine (B7.out.alloc b7 _).grown hgrow (by simp; omega) ?_
          intro k' hk'
          exact (O7.out.lt k' hk').1)
        clear hown8 hgrow hk8 hkb
        go_wp2_with fail
        go_roundw
        case rel => exact ⟨k + 1, by omega, by go_num, HO8.out, HB8.out⟩
        case measure => simp [intOf]; omega
    · have hki : ¬ (k : Int) < (r : Int) := by omega
      obtain rfl : k = r := by omega
      have W5 := Lib.hid HBr.out
      obtain ⟨a6, c6, hv, hS6⟩ := (show OwnT wr w5.heap.size u17 D from HDe.out ▸ HO.out).strs
      rw [HDs.out.1] at hv hS6
      subst hv
      have T6 := Lib.hid (tab_below T5.out W5.out)
      have S6 := Lib.hid (S5.out.below W5.out)
      have A6 := Lib.hid (A5.out.below W5.out)
      have D6 := Lib.hid hS6
      have B6 := Lib.hid (B5.out.trans (W5.out.mono B5.out.size))
      clear HO hlt hS6 hbz
      obtain ⟨bl, ol, rfl, hcl⟩ := S6.out.2 (by omega)
      have x3 := hcl q (by omega)
      rw [HYe.out] at x3
      clear hcl
      cases right with
      | true =>
        obtain ⟨C, hC⟩ : ∃ C, climbI X (q : Int) A = C := ⟨_, rfl⟩
        obtain ⟨K, hK⟩ : ∃ K, climbedI X (q : Int) A = K := ⟨_, rfl⟩
        have HC1 := Lib.hid (HCl.out A HAs.out.1 HAs.out.2 a4 c4)
        have HK1 := Lib.hid (HCd.out A HAs.out.1 HAs.out.2 a4 c4)
        rw [hC] at HC1
        rw [hK] at HK1
        have hso := HSo.out A HAs.out.1 HAs.out.2
        rw [hC, hK] at hso
        have HSo1 := Lib.hid hso
        have hKl : K.length = k := by rw [← hK]; unfold climbedI; rw [climbed_len, HAs.out.1]
        have HKl := Lib.hid hKl
        have HK73 := Lib.hid (show ∀ z ∈ K, z.size ≤ 73 from by rw [← hK]; unfold climbedI; exact climbed_size A X _ HX32.out HAs.out.2)
        clear hso hC hK hKl
        go_wp2_with fail
        refine (HC1.out wr A6.out T6.out).mono ?_
        rintro e w7 ⟨rfl, h7⟩
        have T7 := Lib.hid (tab_below T6.out h7)
        have S7 := Lib.hid (S6.out.below h7)
        have A7 := Lib.hid (A6.out.below h7)
        have D7 := Lib.hid (A6.out.below h7)
        have B7 := Lib.hid (B6.out.trans (h7.mono B6.out.size))
        clear h7
        go_wp2_with fail
        refine (HRt.out _ _ w7 S7.out T7.out).mono ?_
        rintro e w8 ⟨rfl, h8⟩
        have T8 := Lib.hid (tab_below T7.out h8)
        have S8 := Lib.hid (S7.out.below h8)
        have A8 := Lib.hid (A7.out.below h8)
        have D8 := Lib.hid (D7.out.below h8)
        have B8 := Lib.hid (B7.out.trans (h8.mono B7.out.size))
        obtain ⟨b9, o9, e9, hcl⟩ := S8.out.2 (by omega)
        injection e9 with e9
        injection e9 with e91 e92
        subst e91; subst e92
        have x8 := hcl q (by omega)
        rw [HYe.out] at x8
        clear h8 x3 hcl
        by_cases hCR : C = R
        · have hcr : (C.toList == R.toList) = true := by rw [hCR]; exact text_self _
          by_cases hXY : X = Y
          · have hxy : (X.toList == Y.toList) = true := by rw [hXY]; exact text_self _
            obtain ⟨S, hS⟩ : ∃ S : Bool, S = true ↔ A = A := ⟨decide (A = A), decide_eq_true_iff⟩
            have HTx := Lib.hid (fun W h1 h2 => texts_any A A a4 a4 k k c4 c4 W h1 h2 (by omega) S hS)
            have hclash : S = false → ClashIn (I ++ K) := fun h => (HSo1.out hCR).resolve_left (fun h2 => by have h3 := hS.2 (by first | exact h2.2 | rfl); rw [h3] at h; cases h)
            have HClash := Lib.hid hclash
            clear hCR hXY hS hclash
            go_wp2_with fail
            refine (HTx.out w8 D8.out A8.out).mono ?_
            rintro e w9 ⟨rfl, h9⟩
            have T9 := Lib.hid (tab_below T8.out h9)
            have S9 := Lib.hid (S8.out.below h9)
            have D9 := Lib.hid (D8.out.below h9)
            have B9 := Lib.hid (B8.out.trans (h9.mono B8.out.size))
            clear h9 x8
            cases S with
            | true =>
              go_wp2_with fail
              go_ret
              exact ⟨rfl, B9.out⟩
            | false =>
              have HCla := Lib.hid (show ClashIn (I ++ K) from HClash.out (by first | rfl | trivial))
              clear HClash
              obtain ⟨i0, hi0, hz0, hz1, hz2⟩ := info_parts infoText
              have hb1 : 0 + I.length ≤ maxLen := by have := HIs.out.1; unfold maxLen; omega
              have hb2 : (0 + I.length) * 16 ≤ 140737488355328 := by have := HIs.out.1; omega
              have hb3 : I.length + K.length ≤ maxLen := by have := HIs.out.1; have := HKl.out; unfold maxLen; omega
              have hb4 : (I.length + K.length) * 16 ≤ 140737488355328 := by have := HIs.out.1; have := HKl.out; omega
              go_wp2_with fail
              refine (HIn.out _ _ w9 S9.out T9.out).mono ?_
              rintro e w10 ⟨a10, c10, rfl, hs10, h10, _⟩
              have T10 := Lib.hid (tab_below T9.out h10)
              have D10 := Lib.hid (D9.out.below h10)
              have B10 := Lib.hid (B9.out.trans (h10.mono B9.out.size))
              have I10 := Lib.hid hs10
              clear h10 hs10
              go_wp2_with (refine wpList_append_when _ (by rfl) (.const (.slice none 0 0)) (.tmp 77) 22 (by rfl) w10.heap.size 9 i0 (.string .empty) 1 16 Tryd.underlying22 hi0 hz0 hz1 hz2 (by rfl) (by decide) (.slice none 0 0) 0 [] (by rfl) (World.ownsRow_nil _ _ _ _) w10.heap.size a10 I.length c10 (I.map Value.string) (by rfl) (strs_reads I10.out) (texts_ones I) hb1 hb2 (Nat.le_refl _) ?_)
              intro v11 w11 hown11 hg11 _
              have O11 := Lib.hid (show OwnT w11 w10.heap.size v11 I from hown11)
              have W11 := Lib.hid (show Below w10.heap.size w10 w11 from (Below.refl _ _).grown hg11 (Nat.le_refl _) (fun k hk => by cases hk))
              have T11 := Lib.hid (tab_below T10.out W11.out)
              have D11 := Lib.hid (D10.out.below W11.out)
              have B11 := Lib.hid (B10.out.trans (W11.out.mono B10.out.size))
              clear hown11 hg11
              go_wp2_with fail
              refine (HK1.out w11 D11.out T11.out).mono ?_
              rintro e w12 ⟨a12, c12, rfl, hs12, h12, _⟩
              have T12 := Lib.hid (tab_below T11.out h12)
              have B12 := Lib.hid (B11.out.trans (h12.mono B11.out.size))
              have W12 := Lib.hid (W11.out.trans (h12.mono W11.out.size))
              have O12 := Lib.hid (own_below O11.out h12)
              have I12 := Lib.hid hs12
              clear h12 hs12
              go_wp2_with (refine wpList_append_when _ (by rfl) (.tmp 78) (.tmp 82) 22 (by rfl) w10.heap.size 9 i0 (.string .empty) 1 16 Tryd.underlying22 hi0 hz0 hz1 hz2 (by rfl) (by decide) v11 I.length (I.map Value.string) (by rfl) O12.out w12.heap.size a12 K.length c12 (K.map Value.string) (by rfl) (strs_reads I12.out) (texts_ones K) hb3 hb4 W12.out.size ?_)
              intro v13 w13 hown13 hg13 _
              have hO13 : OwnT w13 w10.heap.size v13 (I ++ K) := by
                unfold OwnT
                rw [List.map_append, List.length_append]
                exact hown13
              have W13 := Lib.hid (show Below w10.heap.size w10 w13 from W12.out.grown hg13 W12.out.size (fun k hk => (O12.out.lt k hk).1))
              have B13 := Lib.hid (B10.out.trans (W13.out.mono B10.out.size))
              have T13 := Lib.hid (tab_below HT.out B13.out)
              obtain ⟨a13, c13, hv13, hs13⟩ := hO13.strs
              have hlen : (I ++ K).length ≤ 4294967296 := by rw [List.length_append]; have := HIs.out.1; have := HKl.out; omega
              have hIK : ∀ x ∈ I ++ K, x.size ≤ 9223372036854775000 := fun x hx => by
                rcases List.mem_append.1 hx with h | h
                · exact Nat.le_trans (HIs.out.2 x h) (by omega)
                · exact Nat.le_trans (HK73.out x h) (by omega)
              have hcl2 := pclash_any (I ++ K) a13 (I ++ K).length c13 hlen hIK true ⟨fun _ => HCla.out, fun _ => rfl⟩ w13 hs13 T13.out
              obtain ⟨m, hm⟩ : ∃ m, (I ++ K).length = m := ⟨_, rfl⟩
              rw [hm] at hv13 hcl2
              have HCz := Lib.hid hcl2
              subst hv13
              clear hown13 hg13 hO13 hs13 hb1 hb2 hb3 hb4 hlen hcl2 hm hIK
              go_wp2_with fail
              refine HCz.out.mono ?_
              rintro e w14 ⟨rfl, h14⟩
              have B14 := Lib.hid (B13.out.trans (h14.mono B13.out.size))
              clear h14
              go_wp2_with fail
              go_ret
              exact ⟨rfl, B14.out⟩
          · have hxy : (X.toList == Y.toList) = false := text_ne _ _ hXY
            have HCla := Lib.hid (show ClashIn (I ++ K) from (HSo1.out hCR).resolve_left (fun h2 => hXY h2.1))
            clear hCR hXY
            go_wp2_with fail
            obtain ⟨i0, hi0, hz0, hz1, hz2⟩ := info_parts infoText
            have hb1 : 0 + I.length ≤ maxLen := by have := HIs.out.1; unfold maxLen; omega
            have hb2 : (0 + I.length) * 16 ≤ 140737488355328 := by have := HIs.out.1; omega
            have hb3 : I.length + K.length ≤ maxLen := by have := HIs.out.1; have := HKl.out; unfold maxLen; omega
            have hb4 : (I.length + K.length) * 16 ≤ 140737488355328 := by have := HIs.out.1; have := HKl.out; omega
            skip
            refine (HIn.out _ _ w8 S8.out T8.out).mono ?_
            rintro e w10 ⟨a10, c10, rfl, hs10, h10, _⟩
            have T10 := Lib.hid (tab_below T8.out h10)
            have D10 := Lib.hid (D8.out.below h10)
            have B10 := Lib.hid (B8.out.trans (h10.mono B8.out.size))
            have I10 := Lib.hid hs10
            clear h10 hs10
            go_wp2_with (refine wpList_append_when _ (by rfl) (.const (.slice none 0 0)) (.tmp 77) 22 (by rfl) w10.heap.size 9 i0 (.string .empty) 1 16 Tryd.underlying22 hi0 hz0 hz1 hz2 (by rfl) (by decide) (.slice none 0 0) 0 [] (by rfl) (World.ownsRow_nil _ _ _ _) w10.heap.size a10 I.length c10 (I.map Value.string) (by rfl) (strs_reads I10.out) (texts_ones I) hb1 hb2 (Nat.le_refl _) ?_)
            intro v11 w11 hown11 hg11 _
            have O11 := Lib.hid (show OwnT w11 w10.heap.size v11 I from hown11)
            have W11 := Lib.hid (show Below w10.heap.size w10 w11 from (Below.refl _ _).grown hg11 (Nat.le_refl _) (fun k hk => by cases hk))
            have T11 := Lib.hid (tab_below T10.out W11.out)
            have D11 := Lib.hid (D10.out.below W11.out)
            have B11 := Lib.hid (B10.out.trans (W11.out.mono B10.out.size))
            clear hown11 hg11
            go_wp2_with fail
            refine (HK1.out w11 D11.out T11.out).mono ?_
            rintro e w12 ⟨a12, c12, rfl, hs12, h12, _⟩
            have T12 := Lib.hid (tab_below T11.out h12)
            have B12 := Lib.hid (B11.out.trans (h12.mono B11.out.size))
            have W12 := Lib.hid (W11.out.trans (h12.mono W11.out.size))
            have O12 := Lib.hid (own_below O11.out h12)
            have I12 := Lib.hid hs12
            clear h12 hs12
            go_wp2_with (refine wpList_append_when _ (by rfl) (.tmp 78) (.tmp 82) 22 (by rfl) w10.heap.size 9 i0 (.string .empty) 1 16 Tryd.underlying22 hi0 hz0 hz1 hz2 (by rfl) (by decide) v11 I.length (I.map Value.string) (by rfl) O12.out w12.heap.size a12 K.length c12 (K.map Value.string) (by rfl) (strs_reads I12.out) (texts_ones K) hb3 hb4 W12.out.size ?_)
            intro v13 w13 hown13 hg13 _
            have hO13 : OwnT w13 w10.heap.size v13 (I ++ K) := by
              unfold OwnT
              rw [List.map_append, List.length_append]
              exact hown13
            have W13 := Lib.hid (show Below w10.heap.size w10 w13 from W12.out.grown hg13 W12.out.size (fun k hk => (O12.out.lt k hk).1))
            have B13 := Lib.hid (B10.out.trans (W13.out.mono B10.out.size))
            have T13 := Lib.hid (tab_below HT.out B13.out)
            obtain ⟨a13, c13, hv13, hs13⟩ := hO13.strs
            have hlen : (I ++ K).length ≤ 4294967296 := by rw [List.length_append]; have := HIs.out.1; have := HKl.out; omega
            have hIK : ∀ x ∈ I ++ K, x.size ≤ 9223372036854775000 := fun x hx => by
              rcases List.mem_append.1 hx with h | h
              · exact Nat.le_trans (HIs.out.2 x h) (by omega)
              · exact Nat.le_trans (HK73.out x h) (by omega)
            have hcl2 := pclash_any (I ++ K) a13 (I ++ K).length c13 hlen hIK true ⟨fun _ => HCla.out, fun _ => rfl⟩ w13 hs13 T13.out
            obtain ⟨m, hm⟩ : ∃ m, (I ++ K).length = m := ⟨_, rfl⟩
            rw [hm] at hv13 hcl2
            have HCz := Lib.hid hcl2
            subst hv13
            clear hown13 hg13 hO13 hs13 hb1 hb2 hb3 hb4 hlen hcl2 hm hIK
            go_wp2_with fail
            refine HCz.out.mono ?_
            rintro e w14 ⟨rfl, h14⟩
            have B14 := Lib.hid (B13.out.trans (h14.mono B13.out.size))
            clear h14
            go_wp2_with fail
            go_ret
            exact ⟨rfl, B14.out⟩
        · have hcr : (C.toList == R.toList) = false := text_ne _ _ hCR
          clear hCR
          go_wp2_with fail
          go_ret
          exact ⟨rfl, B8.out⟩
      | false =>
        obtain ⟨C, hC⟩ : ∃ C, climbI X (q : Int) D = C := ⟨_, rfl⟩
        obtain ⟨K, hK⟩ : ∃ K, climbedI X (q : Int) D = K := ⟨_, rfl⟩
        have HC1 := Lib.hid (HCl.out D HDs.out.1 HDs.out.2 a6 c6)
        have HK1 := Lib.hid (HCd.out D HDs.out.1 HDs.out.2 a6 c6)
        rw [hC] at HC1
        rw [hK] at HK1
        have hso := HSo.out D HDs.out.1 HDs.out.2
        rw [hC, hK] at hso
        have HSo1 := Lib.hid hso
        have hKl : K.length = k := by rw [← hK]; unfold climbedI; rw [climbed_len, HDs.out.1]
        have HKl := Lib.hid hKl
        have HK73 := Lib.hid (show ∀ z ∈ K, z.size ≤ 73 from by rw [← hK]; unfold climbedI; exact climbed_size D X _ HX32.out HDs.out.2)
        clear hso hC hK hKl
        go_wp2_with fail
        refine (HC1.out wr D6.out T6.out).mono ?_
        rintro e w7 ⟨rfl, h7⟩
        have T7 := Lib.hid (tab_below T6.out h7)
        have S7 := Lib.hid (S6.out.below h7)
        have A7 := Lib.hid (A6.out.below h7)
        have D7 := Lib.hid (D6.out.below h7)
        have B7 := Lib.hid (B6.out.trans (h7.mono B6.out.size))
        clear h7
        go_wp2_with fail
        refine (HRt.out _ _ w7 S7.out T7.out).mono ?_
        rintro e w8 ⟨rfl, h8⟩
        have T8 := Lib.hid (tab_below T7.out h8)
        have S8 := Lib.hid (S7.out.below h8)
        have A8 := Lib.hid (A7.out.below h8)
        have D8 := Lib.hid (D7.out.below h8)
        have B8 := Lib.hid (B7.out.trans (h8.mono B7.out.size))
        obtain ⟨b9, o9, e9, hcl⟩ := S8.out.2 (by omega)
        injection e9 with e9
        injection e9 with e91 e92
        subst e91; subst e92
        have x8 := hcl q (by omega)
        rw [HYe.out] at x8
        clear h8 x3 hcl
        by_cases hCR : C = R
        · have hcr : (C.toList == R.toList) = true := by rw [hCR]; exact text_self _
          by_cases hXY : X = Y
          · have hxy : (X.toList == Y.toList) = true := by rw [hXY]; exact text_self _
            obtain ⟨S, hS⟩ : ∃ S : Bool, S = true ↔ D = A := ⟨decide (D = A), decide_eq_true_iff⟩
            have HTx := Lib.hid (fun W h1 h2 => texts_any D A a6 a4 k k c6 c4 W h1 h2 (by omega) S hS)
            have hclash : S = false → ClashIn (I ++ K) := fun h => (HSo1.out hCR).resolve_left (fun h2 => by have h3 := hS.2 (by first | exact h2.2 | rfl); rw [h3] at h; cases h)
            have HClash := Lib.hid hclash
            clear hCR hXY hS hclash
            go_wp2_with fail
            refine (HTx.out w8 D8.out A8.out).mono ?_
            rintro e w9 ⟨rfl, h9⟩
            have T9 := Lib.hid (tab_below T8.out h9)
            have S9 := Lib.hid (S8.out.below h9)
            have D9 := Lib.hid (D8.out.below h9)
            have B9 := Lib.hid (B8.out.trans (h9.mono B8.out.size))
            clear h9 x8
            cases S with
            | true =>
              go_wp2_with fail
              go_ret
              exact ⟨rfl, B9.out⟩
            | false =>
              have HCla := Lib.hid (show ClashIn (I ++ K) from HClash.out (by first | rfl | trivial))
              clear HClash
              obtain ⟨i0, hi0, hz0, hz1, hz2⟩ := info_parts infoText
              have hb1 : 0 + I.length ≤ maxLen := by have := HIs.out.1; unfold maxLen; omega
              have hb2 : (0 + I.length) * 16 ≤ 140737488355328 := by have := HIs.out.1; omega
              have hb3 : I.length + K.length ≤ maxLen := by have := HIs.out.1; have := HKl.out; unfold maxLen; omega
              have hb4 : (I.length + K.length) * 16 ≤ 140737488355328 := by have := HIs.out.1; have := HKl.out; omega
              go_wp2_with fail
              refine (HIn.out _ _ w9 S9.out T9.out).mono ?_
              rintro e w10 ⟨a10, c10, rfl, hs10, h10, _⟩
              have T10 := Lib.hid (tab_below T9.out h10)
              have D10 := Lib.hid (D9.out.below h10)
              have B10 := Lib.hid (B9.out.trans (h10.mono B9.out.size))
              have I10 := Lib.hid hs10
              clear h10 hs10
              go_wp2_with (refine wpList_append_when _ (by rfl) (.const (.slice none 0 0)) (.tmp 77) 22 (by rfl) w10.heap.size 9 i0 (.string .empty) 1 16 Tryd.underlying22 hi0 hz0 hz1 hz2 (by rfl) (by decide) (.slice none 0 0) 0 [] (by rfl) (World.ownsRow_nil _ _ _ _) w10.heap.size a10 I.length c10 (I.map Value.string) (by rfl) (strs_reads I10.out) (texts_ones I) hb1 hb2 (Nat.le_refl _) ?_)
              intro v11 w11 hown11 hg11 _
              have O11 := Lib.hid (show OwnT w11 w10.heap.size v11 I from hown11)
              have W11 := Lib.hid (show Below w10.heap.size w10 w11 from (Below.refl _ _).grown hg11 (Nat.le_refl _) (fun k hk => by cases hk))
              have T11 := Lib.hid (tab_below T10.out W11.out)
              have D11 := Lib.hid (D10.out.below W11.out)
              have B11 := Lib.hid (B10.out.trans (W11.out.mono B10.out.size))
              clear hown11 hg11
              go_wp2_with fail
              refine (HK1.out w11 D11.out T11.out).mono ?_
              rintro e w12 ⟨a12, c12, rfl, hs12, h12, _⟩
              have T12 := Lib.hid (tab_below T11.out h12)
              have B12 := Lib.hid (B11.out.trans (h12.mono B11.out.size))
              have W12 := Lib.hid (W11.out.trans (h12.mono W11.out.size))
              have O12 := Lib.hid (own_below O11.out h12)
              have I12 := Lib.hid hs12
              clear h12 hs12
              go_wp2_with (refine wpList_append_when _ (by rfl) (.tmp 78) (.tmp 82) 22 (by rfl) w10.heap.size 9 i0 (.string .empty) 1 16 Tryd.underlying22 hi0 hz0 hz1 hz2 (by rfl) (by decide) v11 I.length (I.map Value.string) (by rfl) O12.out w12.heap.size a12 K.length c12 (K.map Value.string) (by rfl) (strs_reads I12.out) (texts_ones K) hb3 hb4 W12.out.size ?_)
              intro v13 w13 hown13 hg13 _
              have hO13 : OwnT w13 w10.heap.size v13 (I ++ K) := by
                unfold OwnT
                rw [List.map_append, List.length_append]
                exact hown13
              have W13 := Lib.hid (show Below w10.heap.size w10 w13 from W12.out.grown hg13 W12.out.size (fun k hk => (O12.out.lt k hk).1))
              have B13 := Lib.hid (B10.out.trans (W13.out.mono B10.out.size))
              have T13 := Lib.hid (tab_below HT.out B13.out)
              obtain ⟨a13, c13, hv13, hs13⟩ := hO13.strs
              have hlen : (I ++ K).length ≤ 4294967296 := by rw [List.length_append]; have := HIs.out.1; have := HKl.out; omega
              have hIK : ∀ x ∈ I ++ K, x.size ≤ 9223372036854775000 := fun x hx => by
                rcases List.mem_append.1 hx with h | h
                · exact Nat.le_trans (HIs.out.2 x h) (by omega)
                · exact Nat.le_trans (HK73.out x h) (by omega)
              have hcl2 := pclash_any (I ++ K) a13 (I ++ K).length c13 hlen hIK true ⟨fun _ => HCla.out, fun _ => rfl⟩ w13 hs13 T13.out
              obtain ⟨m, hm⟩ : ∃ m, (I ++ K).length = m := ⟨_, rfl⟩
              rw [hm] at hv13 hcl2
              have HCz := Lib.hid hcl2
              subst hv13
              clear hown13 hg13 hO13 hs13 hb1 hb2 hb3 hb4 hlen hcl2 hm hIK
              go_wp2_with fail
              refine HCz.out.mono ?_
              rintro e w14 ⟨rfl, h14⟩
              have B14 := Lib.hid (B13.out.trans (h14.mono B13.out.size))
              clear h14
              go_wp2_with fail
              go_ret
              exact ⟨rfl, B14.out⟩
          · have hxy : (X.toList == Y.toList) = false := text_ne _ _ hXY
            have HCla := Lib.hid (show ClashIn (I ++ K) from (HSo1.out hCR).resolve_left (fun h2 => hXY h2.1))
            clear hCR hXY
            go_wp2_with fail
            obtain ⟨i0, hi0, hz0, hz1, hz2⟩ := info_parts infoText
            have hb1 : 0 + I.length ≤ maxLen := by have := HIs.out.1; unfold maxLen; omega
            have hb2 : (0 + I.length) * 16 ≤ 140737488355328 := by have := HIs.out.1; omega
            have hb3 : I.length + K.length ≤ maxLen := by have := HIs.out.1; have := HKl.out; unfold maxLen; omega
            have hb4 : (I.length + K.length) * 16 ≤ 140737488355328 := by have := HIs.out.1; have := HKl.out; omega
            skip
            refine (HIn.out _ _ w8 S8.out T8.out).mono ?_
            rintro e w10 ⟨a10, c10, rfl, hs10, h10, _⟩
            have T10 := Lib.hid (tab_below T8.out h10)
            have D10 := Lib.hid (D8.out.below h10)
            have B10 := Lib.hid (B8.out.trans (h10.mono B8.out.size))
            have I10 := Lib.hid hs10
            clear h10 hs10
            go_wp2_with (refine wpList_append_when _ (by rfl) (.const (.slice none 0 0)) (.tmp 77) 22 (by rfl) w10.heap.size 9 i0 (.string .empty) 1 16 Tryd.underlying22 hi0 hz0 hz1 hz2 (by rfl) (by decide) (.slice none 0 0) 0 [] (by rfl) (World.ownsRow_nil _ _ _ _) w10.heap.size a10 I.length c10 (I.map Value.string) (by rfl) (strs_reads I10.out) (texts_ones I) hb1 hb2 (Nat.le_refl _) ?_)
            intro v11 w11 hown11 hg11 _
            have O11 := Lib.hid (show OwnT w11 w10.heap.size v11 I from hown11)
            have W11 := Lib.hid (show Below w10.heap.size w10 w11 from (Below.refl _ _).grown hg11 (Nat.le_refl _) (fun k hk => by cases hk))
            have T11 := Lib.hid (tab_below T10.out W11.out)
            have D11 := Lib.hid (D10.out.below W11.out)
            have B11 := Lib.hid (B10.out.trans (W11.out.mono B10.out.size))
            clear hown11 hg11
            go_wp2_with fail
            refine (HK1.out w11 D11.out T11.out).mono ?_
            rintro e w12 ⟨a12, c12, rfl, hs12, h12, _⟩
            have T12 := Lib.hid (tab_below T11.out h12)
            have B12 := Lib.hid (B11.out.trans (h12.mono B11.out.size))
            have W12 := Lib.hid (W11.out.trans (h12.mono W11.out.size))
            have O12 := Lib.hid (own_below O11.out h12)
            have I12 := Lib.hid hs12
            clear h12 hs12
            go_wp2_with (refine wpList_append_when _ (by rfl) (.tmp 78) (.tmp 82) 22 (by rfl) w10.heap.size 9 i0 (.string .empty) 1 16 Tryd.underlying22 hi0 hz0 hz1 hz2 (by rfl) (by decide) v11 I.length (I.map Value.string) (by rfl) O12.out w12.heap.size a12 K.length c12 (K.map Value.string) (by rfl) (strs_reads I12.out) (texts_ones K) hb3 hb4 W12.out.size ?_)
            intro v13 w13 hown13 hg13 _
            have hO13 : OwnT w13 w10.heap.size v13 (I ++ K) := by
              unfold OwnT
              rw [List.map_append, List.length_append]
              exact hown13
            have W13 := Lib.hid (show Below w10.heap.size w10 w13 from W12.out.grown hg13 W12.out.size (fun k hk => (O12.out.lt k hk).1))
            have B13 := Lib.hid (B10.out.trans (W13.out.mono B10.out.size))
            have T13 := Lib.hid (tab_below HT.out B13.out)
            obtain ⟨a13, c13, hv13, hs13⟩ := hO13.strs
            have hlen : (I ++ K).length ≤ 4294967296 := by rw [List.length_append]; have := HIs.out.1; have := HKl.out; omega
            have hIK : ∀ x ∈ I ++ K, x.size ≤ 9223372036854775000 := fun x hx => by
              rcases List.mem_append.1 hx with h | h
              · exact Nat.le_trans (HIs.out.2 x h) (by omega)
              · exact Nat.le_trans (HK73.out x h) (by omega)
            have hcl2 := pclash_any (I ++ K) a13 (I ++ K).length c13 hlen hIK true ⟨fun _ => HCla.out, fun _ => rfl⟩ w13 hs13 T13.out
            obtain ⟨m, hm⟩ : ∃ m, (I ++ K).length = m := ⟨_, rfl⟩
            rw [hm] at hv13 hcl2
            have HCz := Lib.hid hcl2
            subst hv13
            clear hown13 hg13 hO13 hs13 hb1 hb2 hb3 hb4 hlen hcl2 hm hIK
            go_wp2_with fail
            refine HCz.out.mono ?_
            rintro e w14 ⟨rfl, h14⟩
            have B14 := Lib.hid (B13.out.trans (h14.mono B13.out.size))
            clear h14
            go_wp2_with fail
            go_ret
            exact ⟨rfl, B14.out⟩
        · have hcr : (C.toList == R.toList) = false := text_ne _ _ hCR
          clear hCR
          go_wp2_with fail
          go_ret
          exact ⟨rfl, B8.out⟩
end Go.Proofs.YtdkjlijmejleoaaDoor.Sp
