/- The walk of TreeClimbs; what all walks over raw leaves begin with. -/
import Derived.Test.YtdkjlijmejleoaaDoorTreAwake
namespace Go.Proofs.YtdkjlijmejleoaaDoor.Sp
open Go Go.RowKit

theorem getD_le {l : List ByteArray} {m : Nat} (h : ∀ y ∈ l, y.size ≤ m) (k : Nat) : (l.getD k .empty).size ≤ m := by
  rcases Nat.lt_or_ge k l.length with h1 | h1
  · exact h _ (getD_mem_ l k h1)
  · rw [List.getD_eq_getElem?_getD, List.getElem?_eq_none h1]; exact Nat.zero_le _
theorem path_small : ∀ (h : Nat) (l : List ByteArray) (i : Nat), (∀ y ∈ l, y.size ≤ 32) → ∀ y ∈ pathUp h l i, y.size ≤ 32
  | 0, _, _, _, _, hy => by cases hy
  | h + 1, l, i, hl, y, hy => by
    rw [pathUp] at hy
    rcases List.mem_cons.1 hy with rfl | hy
    · exact getD_le hl _
    · exact path_small h (aboveB l) (i / 2) (fun z hz => by rw [above_size l z hz]; omega) y hy
/-- What h and i come to: the height of raw leaves, and a place among them. -/
theorem height_any (H : Int) (h0 : -9223372036854775808 ≤ H ∧ H ≤ 9223372036854775807) :
    ∃ r : Nat, r < 5 ∧ ∀ w, Calls Tryd.prog 25 #[.int .i64 H, .int .i64 5] w fun e w' => e = .returned (.int .i64 (r : Int)) ∧ w = w' := pick_any H 5 (by omega) (by omega) h0.1 h0.2
theorem pow16 (r : Nat) (h : r < 5) : 2 ^ r ≤ 16 := by have : 2 ^ r ≤ 2 ^ 4 := Nat.pow_le_pow_right (by omega) (by omega); omega
theorem small32 {l : List ByteArray} (h : ∀ y ∈ l, y.size ≤ 32) : ∀ x ∈ l, ∀ y ∈ l, x.size + y.size ≤ TM := fun x hx y hy => by
  have := h x hx; have := h y hy; unfold TM; omega

set_option maxRecDepth 100000 in
set_option maxHeartbeats 4000000 in
theorem climbs_law (P : TreeP) (raw : List ByteArray) (a : Option Addr) (n cap : Nat) (hn : n ≤ 9223372036854775807) (hsz : ∀ x ∈ raw, x.size ≤ 9223372036854775807) (H i : Int) (hH : -9223372036854775808 ≤ H ∧ H ≤ 9223372036854775807) (hi : -9223372036854775808 ≤ i ∧ i ≤ 9223372036854775807)
    (w : World) (hl : Strs w a n raw) (hT : Tab w) :
    Calls Tryd.prog 5 #[.slice a n cap, .int .i64 H, .int .i64 i] w fun e w' => e = .returned (.bool true) ∧ Below w.heap.size w w' := by
  obtain ⟨r, hr, hp⟩ := height_any H hH
  obtain ⟨L, hL⟩ : ∃ L, leavesTo raw (2 ^ r) = L := ⟨_, rfl⟩
  obtain ⟨N, hN⟩ : ∃ N, 2 ^ r = N := ⟨_, rfl⟩
  have hN16 : N ≤ 16 := by rw [← hN]; exact pow16 r hr
  have hN1 : 0 < N := by rw [← hN]; exact Nat.pow_pos (by omega)
  have hLl : L.length = N := by rw [← hL, leavesTo_len, hN]
  have hL32 : ∀ y ∈ L, y.size = 32 := by rw [← hL]; exact leavesTo_size _ _
  obtain ⟨q, hq, hpq⟩ := pick_any i N hN1 (by omega) hi.1 hi.2
  have hsm := small32 (fun y hy => Nat.le_of_eq (hL32 y hy))
  obtain ⟨X, hX⟩ : ∃ X, L.getD q .empty = X := ⟨_, rfl⟩
  obtain ⟨R, hR⟩ : ∃ R, rootB L = R := ⟨_, rfl⟩
  obtain ⟨A, hA⟩ : ∃ A, pathB L (q : Int) = A := ⟨_, rfl⟩
  have hAp : A = pathUp r L q := by rw [← hA]; exact path_pow L r q (by omega) (by rw [hLl, hN]) (by omega)
  have hclimb : climbI X (q : Int) A = R := by
    unfold climbI
    rw [hAp, ← hR, root_pow L r (by omega) (by rw [hLl, hN]), ← hX]
    exact climb_path r L q (by rw [hLl, hN]) (by omega)
  have hA32 : ∀ y ∈ A, y.size ≤ 32 := by rw [hAp]; exact path_small r L q (fun y hy => Nat.le_of_eq (hL32 y hy))
  have hAl : A.length ≤ 7 := by rw [hAp, path_len]; omega
  have hX32 : X.size = 32 := by rw [← hX]; exact hL32 _ (getD_mem_ L q (by omega))
  have HLv := Lib.hid (fun w hl => leaves_any raw a n cap hn hsz H r hr hp w hl)
  rw [hL] at HLv
  have HQ := Lib.hid hpq
  have HRt := Lib.hid (fun a c w hs ht => P.root L a N c w (by omega) hsm hs ht)
  rw [hR] at HRt
  have HPt := Lib.hid (fun a c w hs ht => P.path L a N c (q : Int) w (by omega) (by omega) hsm hs ht)
  rw [hA] at HPt
  have HCl := Lib.hid (fun a c w hs ht => P.climb X (q : Int) A a A.length c w (by omega) (by omega) (by omega) (fun y hy => by have := hA32 y hy; unfold TM; omega) hs ht)
  rw [hclimb] at HCl
  have hqi : (q : Int) < (N : Int) := by omega
  have hq0 : (0 : Int) ≤ (q : Int) := by omega
  have HX := Lib.hid hX
  have HLl := Lib.hid hLl
  have HL := Lib.hid hl
  have HT := Lib.hid hT
  have hself := text_self R
  clear hp hL hN hL32 hpq hsm hR hA hAp hclimb hA32 hAl hX32 hX hLl hl hT hsz hH hi hN1
  go_enter Tryd.func5, Tryd.ntmps5
  go_wp2_with fail
  refine (awake_any P w HT.out).mono ?_
  rintro e w1 ⟨rfl, h1⟩
  have T1 := Lib.hid (tab_below HT.out h1)
  have L1 := Lib.hid (HL.out.below h1)
  have B1 := Lib.hid h1
  clear h1
  go_wp2_with fail
  refine (HLv.out w1 L1.out).mono ?_
  rintro e w2 ⟨a2, c2, rfl, hs2, h2, _⟩
  rw [HLl.out] at hs2 ⊢
  have T2 := Lib.hid (tab_below T1.out h2)
  have S2 := Lib.hid hs2
  have B2 := Lib.hid (B1.out.trans (h2.mono B1.out.size))
  clear hs2 h2
  go_wp2_with fail
  refine (HQ.out w2).mono ?_
  rintro e w3 ⟨rfl, rfl⟩
  obtain ⟨b, off, rfl, hc⟩ := S2.out.2 (by omega)
  have c1 := hc q (by omega)
  rw [HX.out] at c1
  clear hc
  go_wp2_with fail
  have hbw := block_lt_of_cell c1
  go_region_held3 (fun w' => w'.cell? ⟨b, off + q, none⟩ = some (.string X)) ((first | exact c1 | (with_reducible assumption))) ((first
    | (go_at_call 16; refine (HPt.out _ _ _ (by first | exact S2.out | exact S2.out.below ((Below.refl _ _).drew)) (by first | exact T2.out | exact tab_below T2.out ((Below.refl _ _).drew))).mono ?_; rintro e w4 ⟨a4, k4, rfl, hs4, h4, _⟩; have h4 : Below w2.heap.size w2 w4 := (by first | exact h4 | exact below_of_drew h4 | exact below_of_drew (below_of_drew h4)); have S4 := Lib.hid hs4; have T4 := Lib.hid (tab_below T2.out h4); have L4 := Lib.hid (S2.out.below h4); have B4 := Lib.hid (B2.out.trans (h4.mono B2.out.size)); have c4 : w4.cell? ⟨b, off + q, none⟩ = some (.string X) := (h4.cell (p := ⟨b, off + q, none⟩) hbw).trans c1; have hbw4 := block_lt_of_cell c4; clear h4 hs4)
    | (go_at_call 20; refine (HCl.out _ _ _ (by first | exact S4.out | exact S4.out.below ((Below.refl _ _).drew)) (by first | exact T4.out | exact tab_below T4.out ((Below.refl _ _).drew))).mono ?_; rintro e w5 ⟨rfl, h5⟩; have h5 : Below w4.heap.size w4 w5 := (by first | exact h5 | exact below_of_drew h5 | exact below_of_drew (below_of_drew h5)); have T5 := Lib.hid (tab_below T4.out h5); have L5 := Lib.hid (L4.out.below h5); have c5 : w5.cell? ⟨b, off + q, none⟩ = some (.string X) := (h5.cell (p := ⟨b, off + q, none⟩) hbw4).trans c4; have hbw5 := block_lt_of_cell c5; have B5 := Lib.hid (B4.out.trans (h5.mono B4.out.size)); clear h5)
    | (go_at_call 13; refine (HRt.out _ _ _ (by first | exact L5.out | exact L5.out.below ((Below.refl _ _).drew)) (by first | exact T5.out | exact tab_below T5.out ((Below.refl _ _).drew))).mono ?_; rintro e w6 ⟨rfl, h6⟩; have h6 : Below w5.heap.size w5 w6 := (by first | exact h6 | exact below_of_drew h6 | exact below_of_drew (below_of_drew h6)); have B6 := Lib.hid (B5.out.trans (h6.mono B5.out.size)); have c6 : w6.cell? ⟨b, off + q, none⟩ = some (.string X) := (h6.cell (p := ⟨b, off + q, none⟩) hbw5).trans c5; clear h6)))
  all_goals
    go_wp2_with fail
    go_ret
    exact ⟨rfl, B6.out⟩
end Go.Proofs.YtdkjlijmejleoaaDoor.Sp
