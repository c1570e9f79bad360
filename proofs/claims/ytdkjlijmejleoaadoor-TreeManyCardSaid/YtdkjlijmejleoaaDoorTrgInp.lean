/- Package tree: Inputs. -/
import Derived.Test.YtdkjlijmejleoaaDoorTrgA
import Derived.Test.YtdkjlijmejleoaaDoorTrgAboveN
namespace Go.Proofs.YtdkjlijmejleoaaDoor.Sp
open Go Go.RowKit
set_option maxRecDepth 100000

theorem inputs_few : ∀ (k m : Nat) (l : List ByteArray), l.length = 2 ^ (k + m) → k + m ≤ 7 → (inputsUp k l).length ≤ 128 * k
  | 0, _, _, _, _ => Nat.zero_le _
  | k + 1, m, l, e, h7 => by
    rw [inputs_succ, List.length_append, pairs_len, up_pow k (m + 1) l (by rw [e]; congr 1; omega)]
    have h1 := inputs_few k (m + 1) l (by rw [e]; congr 1; omega) (by omega)
    have h2 : 2 ^ (m + 1) ≤ 2 ^ 7 := Nat.pow_le_pow_right (by omega) (by omega)
    omega
theorem take_succB (l : List ByteArray) (j : Nat) (h : j < l.length) : l.take (j + 1) = l.take j ++ [l.getD j .empty] := by
  rw [List.take_succ_eq_append_getElem h, List.getD_eq_getElem?_getD, List.getElem?_eq_getElem h]; rfl

set_option maxHeartbeats 4000000 in
theorem tinputs_any (l : List ByteArray) (a : Option Addr) (n cap : Nat) (w : World) (hn : n ≤ 9223372036854775807) (hM : ∀ x ∈ l, ∀ y ∈ l, x.size + y.size ≤ 281474976710647) (hl : Strs w a n l) (hT : Tab w) :
    Calls Tryd.prog 18 #[.slice a n cap] w (TextsTo (inputsB l) w) := by
  have hlen := hl.1
  by_cases hm : mayN n
  · have hdec : decide (mayN n) = true := decide_eq_true hm
    obtain ⟨h, h7, e⟩ := hm
    have Hmay := Lib.hid (tvalid_any n hn a cap)
    rw [hdec] at Hmay
    have HU := Lib.hid (ups_small l hM)
    have HL := Lib.hid hl
    have HT := Lib.hid hT
    have HE := Lib.hid (show l.length = 2 ^ h from by rw [hlen, e])
    have HEn := Lib.hid e
    have hn128 : n ≤ 128 := by have : 2 ^ h ≤ 2 ^ 7 := Nat.pow_le_pow_right (by omega) h7; omega
    have HLow := Lib.hid (fun w h => lowest_any l a n cap hn128 w h)
    obtain ⟨R, hR⟩ : ∃ R, inputsB l = R := ⟨_, rfl⟩
    have HR := Lib.hid (show R = inputsUp h l from by rw [← hR]; exact inputs_pow l h h7 (by rw [hlen, e]))
    rw [hR]
    clear hl hT hM e hdec hR
    go_enter Tryd.func18, Tryd.ntmps18
    go_wp2_with fail
    refine (Hmay.out w).mono ?_
    rintro e w1 ⟨rfl, rfl⟩
    go_wp2_with fail
    refine (HLow.out w HL.out).mono ?_
    rintro e w1 ⟨a1, rfl, hs1, h1, hfr1⟩
    have HS1 := Lib.hid hs1
    have HB1 := Lib.hid h1
    have HF1 := Lib.hid hfr1
    clear hs1 h1 hfr1 hn128
    go_wp2_with fail
    go_loopw [3, 4] (fun ov lv wr => ∃ (k m : Nat) (a' : Option Addr) (V : List ByteArray), k + m = h ∧ lv = .slice a' (2 ^ m) (2 ^ m) ∧ OwnT wr w.heap.size ov (inputsUp k l) ∧ Apart ov a' ∧ Nds wr a' (2 ^ m) (upB k l) V ∧ Below w.heap.size w wr) (fun _ lv _ => sliceLen lv)
    case atStart => exact ⟨0, h, a1, [], by omega, by rw [← HEn.out], World.ownsRow_nil _ _ _ _, (fun g p hg _ => by cases hg), by rw [← HEn.out]; exact HS1.out, HB1.out⟩
    case round =>
      obtain ⟨k, m, a', V, hkm, rfl, hown, hap, hs, hbel⟩ := hrel
      have HAp := Lib.hid hap
      have HO := Lib.hid hown
      have HS := Lib.hid hs
      have HTr := Lib.hid (HT.out.below hbel HT.out.lt)
      have HB := Lib.hid hbel
      clear hown hap hs hbel
      cases m with
      | zero =>
        obtain rfl : k = h := by omega
        obtain ⟨a2, c2, hv, hS2, hfr⟩ := HO.out.strs_
        rw [← HR.out] at hv hS2 hfr
        subst hv
        have HSt := Lib.hid hS2
        have HFr := Lib.hid hfr
        clear hS2 hfr HO HAp
        go_wp2_with fail
        go_ret
        exact ⟨a2, c2, rfl, HSt.out, HB.out, fun p hp => (HFr.out.1 p hp).1, HFr.out.2⟩
      | succ m =>
        obtain ⟨N, hN⟩ : ∃ N, 2 ^ (m + 1) = N := ⟨_, rfl⟩
        rw [hN] at HS ⊢
        have hN128 : N ≤ 128 := by rw [← hN]; exact Nat.pow_le_pow_right (by omega : 0 < 2) (by omega : m + 1 ≤ 7)
        have hN2 : N = 2 * 2 ^ m := by have h9 : 2 ^ (m + 1) = 2 * 2 ^ m := (by rw [Nat.pow_succ, Nat.mul_comm]); omega
        have hpos : 0 < 2 ^ m := Nat.pow_pos (by omega)
        have hNi : 1 < (N : Int) := by omega
        have hul := HS.out.1
        obtain ⟨M, hM⟩ : ∃ M, 2 ^ m = M := ⟨_, rfl⟩
        have HA2 := Lib.hid (fun w h1 h2 => aboveN_any (upB k l) V a' N N hN128 (HU.out k) w h1 h2)
        rw [show N / 2 = M by omega] at HA2
        have Hlt := Lib.hid (show M < N from by omega)
        have Hkm := Lib.hid (show k + 1 + m = h from by omega)
        have Hsm := Lib.hid (inputs_few k (m + 1) l (by rw [HE.out]; congr 1; omega) (by omega))
        have hk7 : k ≤ 7 := by omega
        obtain ⟨P, hP⟩ : ∃ P, inputsUp k l = P := ⟨_, rfl⟩
        obtain ⟨U, hU⟩ : ∃ U, aboveB (upB k l) = U := ⟨_, rfl⟩
        obtain ⟨T, hTt⟩ : ∃ T, pairsB (upB k l) = T := ⟨_, rfl⟩
        have hTl : T.length = M := by rw [← hTt, pairs_len]; omega
        rw [hU, hTt] at HA2
        have Hstep := Lib.hid (show inputsUp (k + 1) l = P ++ T from by rw [inputs_succ, hP, hTt])
        have Hup := Lib.hid (show upB (k + 1) l = U from by rw [up_succ, hU])
        have HM := Lib.hid hM
        have hM64 : M ≤ 64 := by omega
        rw [hP] at Hsm HO
        clear hN hul hkm hN2 hpos hU hTt hP hM
        go_wp2_with fail
        refine (HA2.out wr HS.out HTr.out).mono ?_
        rintro e w4 ⟨a4, rfl, hs4, h4, hfr4⟩
        have HB4 := Lib.hid (HB.out.trans (h4.mono HB.out.size))
        have HS4 := Lib.hid hs4
        have HO4 := Lib.hid (own_below HO.out h4)
        have HAp4 := Lib.hid (show Apart u3 a4 from fun g p hg hp => by
          have h1 := hfr4 p hp
          have h2 := (HO.out.lt g hg).2
          omega)
        clear hs4 h4 hfr4 HO HAp
        go_wp2_with fail
        go_loopw [3, 19] (fun ov iv wi => ∃ j : Nat, j ≤ M ∧ iv = .int .i64 (j : Int) ∧ OwnT wi w.heap.size ov (P ++ T.take j) ∧ Apart ov a4 ∧ Nds wi a4 M U T ∧ Below w.heap.size w wi) (fun _ iv _ => M - (intOf iv).toNat)
        case atStart => exact ⟨0, by omega, rfl, by rw [List.take_zero, List.append_nil]; exact HO4.out, HAp4.out, HS4.out, HB4.out⟩
        case round =>
          obtain ⟨j, hj, rfl, hown, hap, hs, hbel⟩ := hrel
          have HOi := Lib.hid hown
          have HApi := Lib.hid hap
          have HSi := Lib.hid hs
          have HBi := Lib.hid hbel
          have hbz := hbel.size
          clear hown hap hs hbel
          by_cases hlt : j < M
          · have hki : (j : Int) < (M : Int) := by omega
            have hj0 : (0 : Int) ≤ (j : Int) := by omega
            obtain ⟨b, rfl, hc⟩ := HSi.out.2 (by omega)
            have hbw := HSi.out.lt (by omega) _ rfl
            obtain ⟨X, hX⟩ : ∃ X, U.getD j .empty = X := ⟨_, rfl⟩
            obtain ⟨Y, hY⟩ : ∃ Y, T.getD j .empty = Y := ⟨_, rfl⟩
            obtain ⟨c1, c2⟩ := hc j hlt
            rw [hX] at c1
            rw [hY] at c2
            have Hnext := Lib.hid (show T.take (j + 1) = T.take j ++ [Y] from by rw [take_succB T j (by omega), hY])
            clear hc hX hY
            go_upto_region 10 with fail
            obtain ⟨W1, hW1⟩ : ∃ W1, wr.alloc (.cells #[.string X, .string Y] 48) = W1 := ⟨_, rfl⟩
            have hb1 : Blk W1 wr.heap.size 48 #[.string X, .string Y] := by rw [← hW1]; exact Blk.new _ _ _
            have c5 := hb1.cell 1
            simp only [List.getElem?_toArray, List.getElem?_cons_zero, List.getElem?_cons_succ] at c5
            have h1 : Below wr.heap.size wr W1 := by rw [← hW1]; exact (Below.refl _ _).alloc (Nat.le_refl _) _
            have HB1 := Lib.hid (HBi.out.trans (h1.mono HBi.out.size))
            have HO1 := Lib.hid (own_below HOi.out h1)
            have HS1' := Lib.hid (HSi.out.below h1)
            have b1 := HB1.out.size
            have hb1z := h1.size
            obtain ⟨Q, hQ⟩ : ∃ Q, P ++ T.take j = Q := ⟨_, rfl⟩
            have hQl : Q.length = P.length + j := by rw [← hQ, List.length_append, List.length_take]; omega
            obtain ⟨q, hq⟩ : ∃ q, Q.length = q := ⟨_, rfl⟩
            obtain ⟨Xs, eXs⟩ : ∃ Xs : List Value, Q.map Value.string = Xs := ⟨_, rfl⟩
            rw [hQ] at HO1
            have HOk := Lib.hid (show W1.ownsRow w.heap.size 9 1 u3 q Xs from by have := HO1.out; rw [hq, eXs] at this; exact this)
            have EXs := Lib.hid (And.intro eXs hq)
            have Hn2 := Lib.hid (show P ++ T.take (j + 1) = Q ++ [Y] from by rw [Hnext.out, ← List.append_assoc, hQ])
            obtain ⟨i0, hi0, hz0, hz1, hz2⟩ := info_parts infoText
            have hPs := Hsm.out
            have hq9 : q ≤ 1000 := by omega
            have hk8 : q + 1 ≤ maxLen := by unfold maxLen; omega
            have hkb : (q + 1) * 16 ≤ 140737488355328 := by omega
            rw [hW1]
            clear hW1 hb1 h1 hQ hQl hq eXs HO1 hPs
            go_wp2_with (at_builtin; refine wpList_append_lies _ rfl (.tmp 23) (.tmp 26) 22 rfl w.heap.size 9 i0 (.string .empty) 1 16 Tryd.underlying22 hi0 hz0 hz1 hz2 rfl (by decide) u3 q Xs rfl (HOk.out.alloc _) ⟨W1.heap.size, 0, none⟩ 1 1 [.string Y] rfl rfl ?e1 ?e2 (by omega) hk8 hkb ?e5 (W1.heap.size + 1) (by simp) ?_)
            case e2 => rfl
            case e5 => omega
            intro g3 cap3 w3 hown3 hgrow hat hgl
            have HO3 := Lib.hid (show OwnT w3 w.heap.size (.slice (some ⟨g3, 0, none⟩) (q + 1) cap3) (P ++ T.take (j + 1)) from by
              unfold OwnT
              rw [Hn2.out, List.map_append, List.length_append, EXs.out.1, EXs.out.2]
              exact hown3)
            have HB3 := Lib.hid (show Below w.heap.size w w3 from by
              refine (HB1.out.alloc b1 _).grown hgrow (by simp; omega) ?_
              intro k' hk'
              exact (HOk.out.lt k' hk').1)
            have HS3 := Lib.hid (show Nds w3 (some ⟨b, 0, none⟩) M U T from by
              refine Nds.grown (HS1'.out.below ((Below.refl _ _).alloc (Nat.le_refl _) _)) hgrow ?_
              intro p hp
              injection hp with hp
              subst hp
              intro h0
              exact HApi.out b ⟨b, 0, none⟩ h0.symm rfl rfl)
            have HAp3 := Lib.hid (show Apart (.slice (some ⟨g3, 0, none⟩) (q + 1) cap3) (some ⟨b, 0, none⟩) from fun gg p hg hp => by
              injection hg with hg
              injection hp with hp
              subst hg
              subst hp
              intro hbg
              rcases hat with h0 | h0
              · exact HApi.out g3 ⟨b, 0, none⟩ h0 rfl hbg
              · simp only at hbg h0
                omega)
            clear hown3 hgrow hat hgl hk8 hkb c1 c2 c5
            go_wp2_with fail
            go_roundw
            case rel => exact ⟨j + 1, hlt, by go_num, HO3.out, HAp3.out, HS3.out, HB3.out⟩
            case measure => simp [intOf]; omega
          · have hki : ¬ (j : Int) < (M : Int) := by omega
            obtain rfl : j = M := by omega
            have HO5 := Lib.hid (show OwnT wr w.heap.size u3 (inputsUp (k + 1) l) from by
              rw [Hstep.out]
              have := HOi.out
              rwa [List.take_of_length_le (by omega)] at this)
            go_wp2_with fail
            go_roundw
            case rel => exact ⟨k + 1, m, a4, T, Hkm.out, by rw [HM.out], HO5.out, HApi.out, by rw [HM.out, Hup.out]; exact HSi.out, HBi.out⟩
            case measure => show j < N; exact Hlt.out
  · have hdec : decide (mayN n) = false := decide_eq_false hm
    have hR : inputsB l = [] := by unfold inputsB; rw [if_neg (by rw [hlen]; exact hm)]
    have Hmay := Lib.hid (tvalid_any n hn a cap)
    rw [hdec] at Hmay
    rw [hR]
    have HEnd := Lib.hid (fun (w' : World) (h : Below w.heap.size w w') => (⟨none, 0, rfl, ⟨rfl, fun hp => absurd hp (by simp)⟩, h, (fun p hp => by cases hp), Nat.le_refl _⟩ : TextsTo [] w (.returned (.slice none 0 0)) w'))
    clear hR hdec hm hM
    go_enter Tryd.func18, Tryd.ntmps18
    go_wp2_with fail
    refine (Hmay.out w).mono ?_
    rintro e w1 ⟨rfl, rfl⟩
    go_wp2_with fail
    go_ret
    exact HEnd.out _ (Below.refl _ _)
end Go.Proofs.YtdkjlijmejleoaaDoor.Sp
