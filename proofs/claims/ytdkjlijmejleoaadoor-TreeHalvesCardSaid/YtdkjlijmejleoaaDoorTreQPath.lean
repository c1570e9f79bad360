/- The document's own path. -/
import Derived.Test.YtdkjlijmejleoaaDoorTreRoot
import Derived.Test.YtdkjlijmejleoaaDoorTreAbove
import Derived.Deep.Cut
namespace Go.Proofs.YtdkjlijmejleoaaDoor.Sp
open Go Go.RowKit
set_option maxRecDepth 100000

theorem half_lt (I k m : Nat) (h : I < 2 ^ (k + m)) : I / 2 ^ k < 2 ^ m := by
  rw [Nat.div_lt_iff_lt_mul (Nat.pow_pos (by omega)), ← Nat.pow_add, Nat.add_comm]
  exact h

set_option maxHeartbeats 4000000 in
theorem qpath_of (T : World → Prop) (hTd : ∀ w, T w → T w.drew) (hTb : ∀ w w', T w → Below w.heap.size w w' → T w') (M : Nat) (h64 : 64 ≤ M)
    (hnode : ∀ (a b : ByteArray) (w : World), a.size + b.size ≤ M → T w → Calls Tryd.prog 41 #[.string a, .string b] w fun e w' => e = .returned (.string (nodeB a b)) ∧ Below w.heap.size w w')
    (l : List ByteArray) (a : Option Addr) (n cap : Nat) (hn : n ≤ 9223372036854775807) (i : Int) (hM : ∀ x ∈ l, ∀ y ∈ l, x.size + y.size ≤ M) (w : World) (hl : Strs w a n l) (hT : T w) :
    Calls Tryd.prog 17 #[.slice a n cap, .int .i64 i] w (TextsTo (pathB l i) w) := by
  have hlen := hl.1
  by_cases hm : mayN n
  · have hdec : decide (mayN n) = true := decide_eq_true hm
    obtain ⟨h, h7, e⟩ := hm
    have Hmay := Lib.hid (qmay_any n hn)
    rw [hdec] at Hmay
    have HA := Lib.hid (fun (l : List ByteArray) (a : Option Addr) (n cap : Nat) (h1 : n ≤ 4294967296) (h2 : ∀ x ∈ l, ∀ y ∈ l, x.size + y.size ≤ M) (w : World) (h3 : Strs w a n l) (h4 : T w) => qabove_of T hTd hTb M hnode l a n cap h1 h2 w h3 h4)
    have HU := Lib.hid (up_small l M h64 hM)
    have HL := Lib.hid hl
    have HT := Lib.hid hT
    have HTb := Lib.hid hTb
    have HE := Lib.hid (show l.length = 2 ^ h from by rw [hlen, e])
    have HEn := Lib.hid e
    by_cases hin : 0 ≤ i ∧ i < (n : Int)
    · obtain ⟨I, rfl⟩ : ∃ I : Nat, i = (I : Int) := ⟨i.toNat, by omega⟩
      have hIn : I < n := by omega
      have hIi : (I : Int) < (n : Int) := by omega
      have hI0 : ¬ (I : Int) < 0 := by omega
      have hnI : ¬ n ≤ I := by omega
      obtain ⟨R, hR⟩ : ∃ R, pathB l (I : Int) = R := ⟨_, rfl⟩
      have HR := Lib.hid (show R = pathUp h l I from by rw [← hR]; exact path_pow l h I h7 (by rw [hlen, e]) (by omega))
      have HI := Lib.hid (show I < 2 ^ h from by rw [← e]; exact hIn)
      have hI64 : I ≤ 128 := by have : 2 ^ h ≤ 2 ^ 7 := Nat.pow_le_pow_right (by omega) h7; omega
      rw [hR]
      clear hl hT hM hnode hTd hTb e hdec hR hin hIn
      go_enter Tryd.func17, Tryd.ntmps17
      go_wp2_with fail
      refine (Hmay.out w).mono ?_
      rintro e w1 ⟨rfl, rfl⟩
      go_wp2_with fail
      clear hI0 hIi hnI
      go_loopw [1, 6, 7] (fun iv ov lv wr => ∃ (k m : Nat) (a' : Option Addr) (c' : Nat), k + m = h ∧ lv = .slice a' (2 ^ m) c' ∧ iv = .int .i64 ((I / 2 ^ k : Nat) : Int) ∧ OwnT wr w.heap.size ov (pathUp k l I) ∧ Apart ov a' ∧ Strs wr a' (2 ^ m) (upB k l) ∧ T wr ∧ Below w.heap.size w wr) (fun _ _ lv _ => lenOf lv)
      case atStart => exact ⟨0, h, a, cap, by omega, by rw [← HEn.out], by rw [Nat.pow_zero, Nat.div_one], World.ownsRow_nil _ _ _ _, (fun g p hg _ => by cases hg), by rw [← HEn.out]; exact HL.out, HT.out, Below.refl _ _⟩
      case round =>
        obtain ⟨k, m, a', c', hkm, rfl, rfl, hown, hap, hs, ht, hbel⟩ := hrel
        have HAp := Lib.hid hap
        have HO := Lib.hid hown
        have HS := Lib.hid hs
        have HTr := Lib.hid ht
        have HB := Lib.hid hbel
        clear hown hap hs ht hbel
        cases m with
        | zero =>
          obtain rfl : k = h := by omega
          obtain ⟨a2, c2, hv, hS2, hfr⟩ := HO.out.strs_
          rw [← HR.out] at hv hS2 hfr
          subst hv
          have HSt := Lib.hid hS2
          have HFr := Lib.hid hfr
          clear hS2 hfr HO HAp
          go_wp2_with fail
          go_ret
          exact ⟨a2, c2, rfl, HSt.out, HB.out, fun p hp => (HFr.out.1 p hp).1, HFr.out.2⟩
        | succ m =>
          obtain ⟨N, hN⟩ : ∃ N, 2 ^ (m + 1) = N := ⟨_, rfl⟩
          obtain ⟨J, hJ⟩ : ∃ J, I / 2 ^ k = J := ⟨_, rfl⟩
          have hJN : J < N := by rw [← hJ, ← hN]; exact half_lt I k (m + 1) (by rw [hkm]; exact HI.out)
          rw [hN] at HS ⊢
          have hN128 : N ≤ 128 := by rw [← hN]; exact Nat.pow_le_pow_right (by omega : 0 < 2) (by omega : m + 1 ≤ 7)
          have hN2 : N = 2 * 2 ^ m := by have h9 : 2 ^ (m + 1) = 2 * 2 ^ m := (by rw [Nat.pow_succ, Nat.mul_comm]); omega
          have hpos : 0 < 2 ^ m := Nat.pow_pos (by omega)
          have hNi : 1 < (N : Int) := by omega
          have hul := HS.out.1
          have HA2 := Lib.hid (fun w h1 h2 => HA.out (upB k l) a' N c' (by omega) (HU.out k) w h1 h2)
          have Hnl := Lib.hid (show (aboveB (upB k l)).length = 2 ^ m by have h9 := above_len (upB k l); omega)
          have Hlt := Lib.hid (show 2 ^ m < N from by omega)
          have Hkm := Lib.hid (show k + 1 + m = h from by omega)
          have HJ2 := Lib.hid (show I / 2 ^ (k + 1) = J / 2 from by rw [← hJ, Nat.pow_succ, Nat.div_div_eq_div_mul])
          have hstep := path_succ k l I
          rw [hJ] at hstep ⊢
          obtain ⟨q, hq⟩ : ∃ q, sib J = q := ⟨_, rfl⟩
          have hqN : q < N := by rw [← hq]; unfold sib; split <;> omega
          obtain ⟨S, hS⟩ : ∃ S, (upB k l).getD q .empty = S := ⟨_, rfl⟩
          rw [hq, hS] at hstep
          obtain ⟨b, off, rfl, hc⟩ := HS.out.2 (by omega)
          have c1 := hc q hqN
          rw [hS] at c1
          have hplen := path_len k l I
          obtain ⟨Xs, eXs⟩ : ∃ Xs : List Value, (pathUp k l I).map Value.string = Xs := ⟨_, rfl⟩
          have HOk := Lib.hid (show wr.ownsRow w.heap.size 9 1 u6 k Xs from by have := HO.out; unfold OwnT at this; rw [hplen, eXs] at this; exact this)
          have EXs := Lib.hid (And.intro eXs hplen)
          have Hstep := Lib.hid hstep
          obtain ⟨i0, hi0, hz0, hz1, hz2⟩ := info_parts infoText
          have hk8 : k + 1 ≤ maxLen := by unfold maxLen; omega
          have hkb : (k + 1) * 16 ≤ 140737488355328 := by omega
          obtain ⟨J2, hJ2⟩ : ∃ J2, J / 2 = J2 := ⟨_, rfl⟩
          rw [hJ2] at HJ2
          have hdiv : (J : Int).tdiv 2 = (J2 : Int) := by rw [Int.tdiv_eq_ediv_of_nonneg (by omega)]; omega
          have hdiv' : (J : Int) / 2 = (J2 : Int) := by omega
          have hdw : IntKind.i64.wrap (J2 : Int) = (J2 : Int) := by rw [IntKind.wrap_i64]; omega
          have hqi : (q : Int) < (N : Int) := by omega
          have hq0 : (0 : Int) ≤ (q : Int) := by omega
          have hqw : IntKind.i64.wrap (q : Int) = (q : Int) := by rw [IntKind.wrap_i64]; omega
          clear hN hJ hul hstep hS hc hplen eXs hJ2 hkm hpos hN2
          rcases Nat.mod_two_eq_zero_or_one J with hmod | hmod
          · have hmi : (J : Int) % 2 = 0 := by omega
            have htm : (J : Int).tmod 2 = 0 := by rw [Int.tmod_eq_emod_of_nonneg (by omega)]; exact hmi
            have hqe : (J : Int) + 1 = (q : Int) := by rw [← hq]; unfold sib; rw [if_pos hmod]; omega
            clear hq hmod
            go_wp2_with (at_builtin; refine wpList_append_lies _ rfl (.tmp 30) (.tmp 36) 22 rfl w.heap.size 9 i0 (.string .empty) 1 16 Tryd.underlying22 hi0 hz0 hz1 hz2 rfl (by decide) u6 k Xs rfl (HOk.out.alloc _) ⟨wr.heap.size, 0, none⟩ 1 1 [.string S] rfl rfl ?c1 ?c2 (by omega) hk8 hkb ?c5 (wr.heap.size + 1) (by simp) ?_)
            case c1 => intro j u hj; exact new_cell _ _ _ hj
            case c2 => intro u hu; simp at hu; subst hu; rfl
            case c5 => have := HB.out.size; simp; omega
            intro g3 cap3 w3 hown3 hgrow hat hgl
            have HO3 := Lib.hid (show OwnT w3 w.heap.size (.slice (some ⟨g3, 0, none⟩) (k + 1) cap3) (pathUp (k + 1) l I) from by
              unfold OwnT
              rw [Hstep.out, List.map_append, List.length_append, EXs.out.1, EXs.out.2]
              exact hown3)
            have HB3 := Lib.hid (show Below w.heap.size w w3 from by
              refine (HB.out.alloc HB.out.size _).grown hgrow (by have := HB.out.size; simp; omega) ?_
              intro k' hk'
              exact (HOk.out.lt k' hk').1)
            have HT3 := Lib.hid (show T w3 from HTb.out w w3 HT.out HB3.out)
            have hbz := HS.out.lt_ (by omega) _ rfl
            have HS3 := Lib.hid (show Strs w3 (some ⟨b, off, none⟩) N (upB k l) from by
              refine Strs.grown_ (HS.out.below ((Below.refl _ _).alloc (Nat.le_refl _) _)) hgrow ?_
              intro p hp
              injection hp with hp
              subst hp
              intro h0
              exact HAp.out b ⟨b, off, none⟩ h0.symm rfl rfl)
            have Hgl := Lib.hid hgl
            clear hown3 hgrow hat hgl hk8 hkb c1 hqi hq0 hqw hqe
            go_wp2_with fail
            refine (HA2.out w3 HS3.out HT3.out).mono ?_
            rintro e w4 ⟨a4, c4, rfl, hs4, h4, hfr4⟩
            have HB4 := Lib.hid (HB3.out.trans (h4.mono HB3.out.size))
            have HT4 := Lib.hid (HTb.out w w4 HT.out HB4.out)
            have HS4 := Lib.hid hs4
            have HO4 := Lib.hid (show OwnT w4 w.heap.size (.slice (some ⟨g3, 0, none⟩) (k + 1) cap3) (pathUp (k + 1) l I) from own_below HO3.out h4)
            have HAp4 := Lib.hid (show Apart (.slice (some ⟨g3, 0, none⟩) (k + 1) cap3) a4 from fun g p hg hp => by
              have h1 := hfr4.1 p hp
              injection hg with hg
              subst hg
              have h2 := Hgl.out
              simp only
              omega)
            clear hs4 h4 hfr4
            go_wp2_with fail
            go_roundw
            case rel => exact ⟨k + 1, m, a4, c4, Hkm.out, by rw [Hnl.out], by rw [HJ2.out], HO4.out, HAp4.out, by rw [up_succ, ← Hnl.out]; exact HS4.out, HT4.out, HB4.out⟩
            case measure => show (aboveB (upB k l)).length < N; rw [Hnl.out]; exact Hlt.out
          · have hmi : (J : Int) % 2 = 1 := by omega
            have htm : (J : Int).tmod 2 = 1 := by rw [Int.tmod_eq_emod_of_nonneg (by omega)]; exact hmi
            have hqe : (J : Int) - 1 = (q : Int) := by rw [← hq]; unfold sib; rw [if_neg (by omega)]; omega
            have hqe2 : IntKind.i64.wrap ((J : Int) - 1) = (q : Int) := by rw [hqe]; exact hqw
            clear hq hmod hqe
            go_wp2_with (at_builtin; refine wpList_append_lies _ rfl (.tmp 38) (.tmp 44) 22 rfl w.heap.size 9 i0 (.string .empty) 1 16 Tryd.underlying22 hi0 hz0 hz1 hz2 rfl (by decide) u6 k Xs rfl (HOk.out.alloc _) ⟨wr.heap.size, 0, none⟩ 1 1 [.string S] rfl rfl ?c1 ?c2 (by omega) hk8 hkb ?c5 (wr.heap.size + 1) (by simp) ?_)
            case c1 => intro j u hj; exact new_cell _ _ _ hj
            case c2 => intro u hu; simp at hu; subst hu; rfl
            case c5 => have := HB.out.size; simp; omega
            intro g3 cap3 w3 hown3 hgrow hat hgl
            have HO3 := Lib.hid (show OwnT w3 w.heap.size (.slice (some ⟨g3, 0, none⟩) (k + 1) cap3) (pathUp (k + 1) l I) from by
              unfold OwnT
              rw [Hstep.out, List.map_append, List.length_append, EXs.out.1, EXs.out.2]
              exact hown3)
            have HB3 := Lib.hid (show Below w.heap.size w w3 from by
              refine (HB.out.alloc HB.out.size _).grown hgrow (by have := HB.out.size; simp; omega) ?_
              intro k' hk'
              exact (HOk.out.lt k' hk').1)
            have HT3 := Lib.hid (show T w3 from HTb.out w w3 HT.out HB3.out)
            have hbz := HS.out.lt_ (by omega) _ rfl
            have HS3 := Lib.hid (show Strs w3 (some ⟨b, off, none⟩) N (upB k l) from by
              refine Strs.grown_ (HS.out.below ((Below.refl _ _).alloc (Nat.le_refl _) _)) hgrow ?_
              intro p hp
              injection hp with hp
              subst hp
              intro h0
              exact HAp.out b ⟨b, off, none⟩ h0.symm rfl rfl)
            have Hgl := Lib.hid hgl
            clear hown3 hgrow hat hgl hk8 hkb c1 hqi hq0 hqw hqe2
            go_wp2_with fail
            refine (HA2.out w3 HS3.out HT3.out).mono ?_
            rintro e w4 ⟨a4, c4, rfl, hs4, h4, hfr4⟩
            have HB4 := Lib.hid (HB3.out.trans (h4.mono HB3.out.size))
            have HT4 := Lib.hid (HTb.out w w4 HT.out HB4.out)
            have HS4 := Lib.hid hs4
            have HO4 := Lib.hid (show OwnT w4 w.heap.size (.slice (some ⟨g3, 0, none⟩) (k + 1) cap3) (pathUp (k + 1) l I) from own_below HO3.out h4)
            have HAp4 := Lib.hid (show Apart (.slice (some ⟨g3, 0, none⟩) (k + 1) cap3) a4 from fun g p hg hp => by
              have h1 := hfr4.1 p hp
              injection hg with hg
              subst hg
              have h2 := Hgl.out
              simp only
              omega)
            clear hs4 h4 hfr4
            go_wp2_with fail
            go_roundw
            case rel => exact ⟨k + 1, m, a4, c4, Hkm.out, by rw [Hnl.out], by rw [HJ2.out], HO4.out, HAp4.out, by rw [up_succ, ← Hnl.out]; exact HS4.out, HT4.out, HB4.out⟩
            case measure => show (aboveB (upB k l)).length < N; rw [Hnl.out]; exact Hlt.out
    · have hR : pathB l i = [] := by unfold pathB; rw [if_neg (by rw [hlen]; omega)]
      rw [hR]
      have HEnd := Lib.hid (fun (w' : World) (h : Below w.heap.size w w') => (⟨none, 0, rfl, ⟨rfl, fun hp => absurd hp (by simp)⟩, h, (fun p hp => by cases hp), Nat.le_refl _⟩ : TextsTo [] w (.returned (.slice none 0 0)) w'))
      clear hl hT hM hnode hTd hTb e hdec hR HA HU HTb HE
      rcases (show i < 0 ∨ (0 ≤ i ∧ (n : Int) ≤ i) by omega) with h0 | ⟨h0, h1⟩
      · clear hin
        go_enter Tryd.func17, Tryd.ntmps17
        go_wp2_with fail
        refine (Hmay.out w).mono ?_
        rintro e w1 ⟨rfl, rfl⟩
        go_wp2_with fail
        go_ret
        exact HEnd.out _ (Below.refl _ _)
      · have h0b : ¬ i < 0 := by omega
        clear hin
        go_enter Tryd.func17, Tryd.ntmps17
        go_wp2_with fail
        refine (Hmay.out w).mono ?_
        rintro e w1 ⟨rfl, rfl⟩
        go_wp2_with fail
        go_ret
        exact HEnd.out _ (Below.refl _ _)
  · have hdec : decide (mayN n) = false := decide_eq_false hm
    have hR : pathB l i = [] := by unfold pathB; rw [if_neg (by rw [hlen]; exact fun h => hm h.1)]
    have Hmay := Lib.hid (qmay_any n hn)
    rw [hdec] at Hmay
    rw [hR]
    have HEnd := Lib.hid (fun (w' : World) (h : Below w.heap.size w w') => (⟨none, 0, rfl, ⟨rfl, fun hp => absurd hp (by simp)⟩, h, (fun p hp => by cases hp), Nat.le_refl _⟩ : TextsTo [] w (.returned (.slice none 0 0)) w'))
    clear hR hdec hm hnode hTd hTb hM
    go_enter Tryd.func17, Tryd.ntmps17
    go_wp2_with fail
    refine (Hmay.out w).mono ?_
    rintro e w1 ⟨rfl, rfl⟩
    go_wp2_with fail
    go_ret
    exact HEnd.out _ (Below.refl _ _)
end Go.Proofs.YtdkjlijmejleoaaDoor.Sp
