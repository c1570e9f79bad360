/- The document's own inputs of a root. -/
import Derived.Test.YtdkjlijmejleoaaDoorTreQPath
import Derived.Test.YtdkjlijmejleoaaDoorTreNode
namespace Go.Proofs.YtdkjlijmejleoaaDoor.Sp
open Go Go.RowKit

theorem inputs_small : ∀ (k m : Nat) (l : List ByteArray), l.length = 2 ^ (k + m) → k + m ≤ 7 → (inputsUp k l).length ≤ 128 * k
  | 0, _, _, _, _ => Nat.zero_le _
  | k + 1, m, l, e, h7 => by
    rw [inputs_succ, List.length_append, pairs_len, up_pow k (m + 1) l (by rw [e]; congr 1; omega)]
    have h1 := inputs_small k (m + 1) l (by rw [e]; congr 1; omega) (by omega)
    have h2 : 2 ^ (m + 1) ≤ 2 ^ 7 := Nat.pow_le_pow_right (by omega) (by omega)
    omega

set_option maxHeartbeats 4000000 in
theorem qinputs_of (T : World → Prop) (hTd : ∀ w, T w → T w.drew) (hTb : ∀ w w', T w → Below w.heap.size w w' → T w') (M : Nat) (h64 : 64 ≤ M)
    (hnode : ∀ (a b : ByteArray) (w : World), a.size + b.size ≤ M → T w → Calls Tryd.prog 41 #[.string a, .string b] w fun e w' => e = .returned (.string (nodeB a b)) ∧ Below w.heap.size w w')
    (hinp : ∀ (a b : ByteArray) (g c : Nat) (w : World), Strs w (some ⟨g, 0, none⟩) 2 [a, b] → a.size + b.size ≤ M → Calls Tryd.prog 39 #[.int .u8 5, .slice (some ⟨g, 0, none⟩) 2 c] w fun e w' => e = .returned (.string (inpB a b)) ∧ Below w.heap.size w w')
    (l : List ByteArray) (a : Option Addr) (n cap : Nat) (hn : n ≤ 9223372036854775807) (hM : ∀ x ∈ l, ∀ y ∈ l, x.size + y.size ≤ M) (w : World) (hl : Strs w a n l) (hT : T w) :
    Calls Tryd.prog 19 #[.slice a n cap] w (TextsTo (inputsB l) w) := by
  have hlen := hl.1
  by_cases hm : mayN n
  · have hdec : decide (mayN n) = true := decide_eq_true hm
    obtain ⟨h, h7, e⟩ := hm
    have Hmay := Lib.hid (qmay_any n hn)
    rw [hdec] at Hmay
    have HA := Lib.hid (fun (l : List ByteArray) (a : Option Addr) (n cap : Nat) (h1 : n ≤ 4294967296) (h2 : ∀ x ∈ l, ∀ y ∈ l, x.size + y.size ≤ M) (w : World) (h3 : Strs w a n l) (h4 : T w) => qabove_of T hTd hTb M hnode l a n cap h1 h2 w h3 h4)
    have HU := Lib.hid (up_small l M h64 hM)
    have HL := Lib.hid hl
    have HT := Lib.hid hT
    have HTb := Lib.hid hTb
    have HTd := Lib.hid hTd
    have HIn := Lib.hid hinp
    have HE := Lib.hid (show l.length = 2 ^ h from by rw [hlen, e])
    have HEn := Lib.hid e
    obtain ⟨R, hR⟩ : ∃ R, inputsB l = R := ⟨_, rfl⟩
    have HR := Lib.hid (show R = inputsUp h l from by rw [← hR]; exact inputs_pow l h h7 (by rw [hlen, e]))
    rw [hR]
    clear hl hT hM hnode hinp hTd hTb e hdec hR
    go_enter Tryd.func19, Tryd.ntmps19
    go_wp2_with fail
    refine (Hmay.out w).mono ?_
    rintro e w1 ⟨rfl, rfl⟩
    go_wp2_with fail
    go_loopw [4, 5, 6] (fun ov lv _ wr => ∃ (k m : Nat) (a' : Option Addr) (c' : Nat), k + m = h ∧ lv = .slice a' (2 ^ m) c' ∧ OwnT wr w.heap.size ov (inputsUp k l) ∧ Apart ov a' ∧ Strs wr a' (2 ^ m) (upB k l) ∧ T wr ∧ Below w.heap.size w wr) (fun _ lv _ _ => lenOf lv)
    case atStart => exact ⟨0, h, a, cap, by omega, by rw [← HEn.out], World.ownsRow_nil _ _ _ _, (fun g p hg _ => by cases hg), by rw [← HEn.out]; exact HL.out, HT.out, Below.refl _ _⟩
    case round =>
      obtain ⟨k, m, a', c', hkm, rfl, hown, hap, hs, ht, hbel⟩ := hrel
      have HAp := Lib.hid hap
      have HO := Lib.hid hown
      have HS := Lib.hid hs
      have HTr := Lib.hid ht
      have HB := Lib.hid hbel
      clear hown hap hs ht hbel
      cases m with
      | zero =>
        obtain rfl : k = h := by omega
        obtain ⟨a2, c2, hv, hS2, hfr⟩ := HO.out.strs_
        rw [← HR.out] at hv hS2 hfr
        subst hv
        have HSt := Lib.hid hS2
        have HFr := Lib.hid hfr
        clear hS2 hfr HO HAp
        go_wp2_with fail
        go_ret
        exact ⟨a2, c2, rfl, HSt.out, HB.out, fun p hp => (HFr.out.1 p hp).1, HFr.out.2⟩
      | succ m =>
        obtain ⟨N, hN⟩ : ∃ N, 2 ^ (m + 1) = N := ⟨_, rfl⟩
        rw [hN] at HS ⊢
        have hN128 : N ≤ 128 := by rw [← hN]; exact Nat.pow_le_pow_right (by omega : 0 < 2) (by omega : m + 1 ≤ 7)
        have hN2 : N = 2 * 2 ^ m := by have h9 : 2 ^ (m + 1) = 2 * 2 ^ m := (by rw [Nat.pow_succ, Nat.mul_comm]); omega
        have hpos : 0 < 2 ^ m := Nat.pow_pos (by omega)
        have hNi : 1 < (N : Int) := by omega
        have hul := HS.out.1
        have HA2 := Lib.hid (fun w h1 h2 => HA.out (upB k l) a' N c' (by omega) (HU.out k) w h1 h2)
        have Hnl := Lib.hid (show (aboveB (upB k l)).length = 2 ^ m by have h9 := above_len (upB k l); omega)
        have Hlt := Lib.hid (show 2 ^ m < N from by omega)
        have Hkm := Lib.hid (show k + 1 + m = h from by omega)
        have Hstep := Lib.hid (inputs_succ k l)
        have Hsm := Lib.hid (inputs_small k (m + 1) l (by rw [HE.out]; congr 1; omega) (by omega))
        have hk7 : k ≤ 7 := by omega
        obtain ⟨P, hP⟩ : ∃ P, inputsUp k l = P := ⟨_, rfl⟩
        obtain ⟨U, hU⟩ : ∃ U, upB k l = U := ⟨_, rfl⟩
        have HMU := Lib.hid (HU.out k)
        rw [hU] at HMU
        rw [hP] at Hsm
        clear hN hul hkm hN2 hpos
        go_upto_region 9 with fail
        go_loopw [4, 6] (fun ov iv wi => ∃ j : Nat, 2 * j ≤ N ∧ iv = .int .i64 ((2 * j : Nat) : Int) ∧ OwnT wi w.heap.size ov (P ++ pairsB (U.take (2 * j))) ∧ Apart ov a' ∧ Strs wi a' N U ∧ T wi ∧ Below w.heap.size w wi) (fun _ iv _ => N - (intOf iv).toNat)
        case atStart => exact ⟨0, by omega, rfl, by rw [Nat.mul_zero, List.take_zero, show pairsB [] = [] from rfl, List.append_nil, ← hP]; exact HO.out, HAp.out, by rw [← hU]; exact HS.out, HTr.out, HB.out⟩
        case round =>
          obtain ⟨j, hj, rfl, hown, hap, hs, ht, hbel⟩ := hrel
          have HOi := Lib.hid hown
          have HApi := Lib.hid hap
          have HSi := Lib.hid hs
          have HTi := Lib.hid ht
          have HBi := Lib.hid hbel
          have hbz := hbel.size
          have hUl := hs.1
          clear hown hap hs ht hbel
          obtain ⟨p, hp⟩ : ∃ p : Nat, 2 * j = p := ⟨_, rfl⟩
          obtain ⟨q, hq⟩ : ∃ q : Nat, p + 1 = q := ⟨_, rfl⟩
          have hqi : (p : Int) + 1 = (q : Int) := by omega
          have hqw : IntKind.i64.wrap (q : Int) = (q : Int) := by rw [IntKind.wrap_i64]; omega
          rw [hp]
          have hAl : (pairsB (U.take p)).length = j := by rw [pairs_len, List.length_take]; omega
          by_cases hlt : q < N
          · have hki : (q : Int) < (N : Int) := by omega
            have hpn : (p : Int) < (N : Int) := by omega
            have hp0 : (0 : Int) ≤ (p : Int) := by omega
            have hq0 : (0 : Int) ≤ (q : Int) := by omega
            obtain ⟨b, off, rfl, hcell⟩ := HSi.out.2 (by omega)
            obtain ⟨X, hX⟩ : ∃ X, U.getD p ByteArray.empty = X := ⟨_, rfl⟩
            obtain ⟨Y, hY⟩ : ∃ Y, U.getD q ByteArray.empty = Y := ⟨_, rfl⟩
            have c1 : wr.cell? ⟨b, off + p, none⟩ = some (.string X) := by rw [← hX]; exact hcell p (by omega)
            have c2 : wr.cell? ⟨b, off + q, none⟩ = some (.string Y) := by rw [← hY]; exact hcell q hlt
            have hXY : X.size + Y.size ≤ M := by
              rw [← hX, ← hY]
              exact HMU.out _ (getD_mem_ U p (by omega)) _ (getD_mem_ U q (by omega))
            obtain ⟨V, hV⟩ : ∃ V, inpB X Y = V := ⟨_, rfl⟩
            have HW := Lib.hid (fun g c w hs => HIn.out X Y g c w hs hXY)
            rw [hV] at HW
            have hnext := Lib.hid (show P ++ pairsB (U.take (2 * (j + 1))) = (P ++ pairsB (U.take p)) ++ [V] from by
              rw [pairs_take U j (by omega), hp, hq, hX, hY, hV, List.append_assoc])
            obtain ⟨cn, hcn⟩ : ∃ cn, (P ++ pairsB (U.take p)).length = cn := ⟨_, rfl⟩
            have hcn2 : cn ≤ 2000 := by rw [← hcn, List.length_append, hAl]; have := Hsm.out; omega
            obtain ⟨Xs, eXs⟩ : ∃ Xs : List Value, (P ++ pairsB (U.take p)).map Value.string = Xs := ⟨_, rfl⟩
            have HOk := Lib.hid (show wr.ownsRow w.heap.size 9 1 u4 cn Xs from by have := HOi.out; rw [hp] at this; unfold OwnT at this; rw [hcn, eXs] at this; exact this)
            have EXs := Lib.hid (And.intro eXs hcn)
            obtain ⟨i0, hi0, hz0, hz1, hz2⟩ := info_parts infoText
            have hk8 : cn + 1 ≤ maxLen := by unfold maxLen; omega
            have hkb : (cn + 1) * 16 ≤ 140737488355328 := by omega
            obtain ⟨r, hr⟩ : ∃ r : Nat, 2 * (j + 1) = r := ⟨_, rfl⟩
            have hri : (p : Int) + 2 = (r : Int) := by omega
            have hrw : IntKind.i64.wrap (r : Int) = (r : Int) := by rw [IntKind.wrap_i64]; omega
            have Hr := Lib.hid hr
            have Hj := Lib.hid (show 2 * (j + 1) ≤ N from by omega)
            have hrn : r ≤ N := by omega
            have hpr : p < r := by omega
            have HSb := Lib.hid (HSi.out.lt_ (by omega) _ rfl)
            have St0 := Lib.hid (strs_blk (ss := [X, Y]) (Blk.new wr 9 #[.string X, .string Y]) rfl)
            have St1 := Lib.hid (strs_blk (ss := [X, Y]) (Blk.drew (Blk.new wr 9 #[.string X, .string Y])) rfl)
            have St2 := Lib.hid (strs_blk (ss := [X, Y]) (Blk.drew (Blk.drew (Blk.new wr 9 #[.string X, .string Y]))) rfl)
            have HB1 := Lib.hid (HBi.out.alloc hbz (.cells #[.string X, .string Y] 9))
            have HO1 := Lib.hid (HOk.out.alloc (.cells #[.string X, .string Y] 9))
            have HS1 := Lib.hid (HSi.out.below ((Below.refl _ _).alloc (Nat.le_refl _) (.cells #[.string X, .string Y] 9)))
            clear hV hX hY eXs hlt hcell HOi hp hq hAl hXY hr hj hcn hUl
            go_wp2_with fail
            go_region_law ((first
              | (refine step_append_lies _ (by rfl) _ _ _ (by rfl) w.heap.size 9 i0 _ 1 16 Tryd.underlying22 hi0 hz0 hz1 hz2 rfl Nat.one_pos u4 cn Xs (by rfl) (by first | exact World.ownsRow.alloc O2.out _ | exact (World.ownsRow.alloc O2.out _).drew) ⟨w2.heap.size, 0, none⟩ 1 1 _ (by rfl) (by rfl) (World.news_of_block (heap_alloc_new w2 _)) (by simp [Value.oneCell']) Nat.one_pos hk8 hkb (by simp; omega) (w2.heap.size + 1) (by simp) ?_; intro gg cap3 w3 hown3 hgrow hat hgl; have HO3 := Lib.hid (show OwnT w3 w.heap.size (.slice (some ⟨gg, 0, none⟩) (cn + 1) cap3) (P ++ pairsB (U.take (2 * (j + 1)))) from (by unfold OwnT; rw [hnext.out, List.map_append, List.length_append, EXs.out.1, EXs.out.2]; exact hown3)); have HB3 := Lib.hid (show Below w.heap.size w w3 from (by first | exact (B2.out.alloc b2 _).grown hgrow (by simp; omega) (fun k' hk' => (O2.out.lt k' hk').1) | exact ((B2.out.alloc b2 _).drew).grown hgrow (by simp; omega) (fun k' hk' => (O2.out.lt k' hk').1))); have HS3 := Lib.hid (show Strs w3 (some ⟨b, off, none⟩) N U from (by first | exact Strs.grown_ (S2.out.below ((Below.refl _ _).alloc (Nat.le_refl _) _)) hgrow (fun p hp => by injection hp with hp; subst hp; intro h0; exact HApi.out b ⟨b, off, none⟩ h0.symm rfl rfl) | exact Strs.grown_ (S2.out.below (((Below.refl _ _).alloc (Nat.le_refl _) _).drew)) hgrow (fun p hp => by injection hp with hp; subst hp; intro h0; exact HApi.out b ⟨b, off, none⟩ h0.symm rfl rfl))); have HAp3 := Lib.hid (show Apart (.slice (some ⟨gg, 0, none⟩) (cn + 1) cap3) (some ⟨b, off, none⟩) from (fun g p hg hp => by injection hg with hg; subst hg; injection hp with hp; subst hp; rcases hat with h0 | h0; exact HApi.out gg _ h0 rfl; have h1 := HSb.out; simp only at h1 ⊢; omega)); clear hown3 hgrow hat hgl)
              | (go_simp; go_at_call 39; refine (HW.out wr.heap.size 2 _ (by first | exact St0.out | exact St1.out | exact St2.out)).mono ?_; rintro e w2 ⟨rfl, h2⟩; have h2 : Below (wr.alloc (.cells #[.string X, .string Y] 9)).heap.size (wr.alloc (.cells #[.string X, .string Y] 9)) w2 := (by first | exact h2 | exact below_of_drew h2 | exact below_of_drew (below_of_drew h2)); have B2 := Lib.hid (HB1.out.trans (h2.mono HB1.out.size)); have O2 := Lib.hid (own_below HO1.out h2); have S2 := Lib.hid (HS1.out.below h2); have b2 := B2.out.size; have hsz2 : wr.heap.size + 1 ≤ w2.heap.size := (by have := h2.size; simpa using this); clear h2)))
            all_goals
              have HT3 := Lib.hid (show T w3 from HTb.out w w3 HT.out HB3.out)
              go_wp2_with fail
              go_roundw
              case rel => exact ⟨j + 1, Hj.out, by rw [Hr.out], HO3.out, HAp3.out, HS3.out, HT3.out, HB3.out⟩
              case measure => have e9 : IntKind.i64.wrap (r : Int) = (r : Int) := by { rw [IntKind.wrap_i64]; omega }; simp only [intOf]; first | omega | (rw [e9]; omega)
          · have hki : ¬ (q : Int) < (N : Int) := by omega
            have hd := (above_done U j (by omega) (by omega)).2
            have HO5 := Lib.hid (show OwnT wr w.heap.size u4 (inputsUp (k + 1) l) from by
              rw [Hstep.out, hP, hU, ← hd, hp]
              have := HOi.out
              rwa [hp] at this)
            have HSu := Lib.hid (show Strs wr a' N (upB k l) from by rw [hU]; exact HSi.out)
            clear hd hlt hAl HOi hU hP
            go_wp2_with fail
            refine (HA2.out wr HSu.out HTi.out).mono ?_
            rintro e w4 ⟨a4, c4, rfl, hs4, h4, hfr4⟩
            have HB4 := Lib.hid (HBi.out.trans (h4.mono HBi.out.size))
            have HT4 := Lib.hid (HTb.out w w4 HT.out HB4.out)
            have HS4 := Lib.hid hs4
            have HO4 := Lib.hid (show OwnT w4 w.heap.size u4 (inputsUp (k + 1) l) from own_below HO5.out h4)
            have HAp4 := Lib.hid (show Apart u4 a4 from fun g p hg hp => by
              have h1 := hfr4.1 p hp
              have h2 := (HO5.out.lt g hg).2
              omega)
            clear hs4 h4 hfr4
            go_wp2_with fail
            go_roundw
            case rel => exact ⟨k + 1, m, a4, c4, Hkm.out, by rw [Hnl.out], HO4.out, HAp4.out, by rw [up_succ, ← Hnl.out]; exact HS4.out, HT4.out, HB4.out⟩
            case measure => show (aboveB (upB k l)).length < N; rw [Hnl.out]; exact Hlt.out
  · have hdec : decide (mayN n) = false := decide_eq_false hm
    have hR : inputsB l = [] := by unfold inputsB; rw [if_neg (by rw [hlen]; exact hm)]
    have Hmay := Lib.hid (qmay_any n hn)
    rw [hdec] at Hmay
    rw [hR]
    have HEnd := Lib.hid (fun (w' : World) (h : Below w.heap.size w w') => (⟨none, 0, rfl, ⟨rfl, fun hp => absurd hp (by simp)⟩, h, (fun p hp => by cases hp), Nat.le_refl _⟩ : TextsTo [] w (.returned (.slice none 0 0)) w'))
    clear hR hdec hm hnode hTd hTb hM hinp
    go_enter Tryd.func19, Tryd.ntmps19
    go_wp2_with fail
    refine (Hmay.out w).mono ?_
    rintro e w1 ⟨rfl, rfl⟩
    go_wp2_with fail
    go_ret
    exact HEnd.out _ (Below.refl _ _)
end Go.Proofs.YtdkjlijmejleoaaDoor.Sp
