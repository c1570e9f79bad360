/- The document's own level above one. -/
import Derived.Test.YtnbaoihamjdjdaaGreatDoorTreB
import Derived.Deep.RegionLaw
import Derived.Deep.Cut
import Derived.Test.YtnbaoihamjdjdaaGreatDoorShaTabs
namespace Go.Proofs.YtnbaoihamjdjdaaGreatDoor.Sp
open Go Go.RowKit
set_option maxRecDepth 100000

set_option maxHeartbeats 4000000 in
theorem qabove_of (T : World → Prop) (hTd : ∀ w, T w → T w.drew) (hTb : ∀ w w', T w → Below w.heap.size w w' → T w') (M : Nat)
    (hnode : ∀ (a b : ByteArray) (w : World), a.size + b.size ≤ M → T w → Calls Tryz.prog 71 #[.string a, .string b] w fun e w' => e = .returned (.string (nodeB a b)) ∧ Below w.heap.size w w')
    (l : List ByteArray) (a : Option Addr) (n cap : Nat) (hn : n ≤ 4294967296) (hM : ∀ x ∈ l, ∀ y ∈ l, x.size + y.size ≤ M) (w : World) (hl : Strs w a n l) (hT : T w) :
    Calls Tryz.prog 65 #[.slice a n cap] w (TextsTo (aboveB l) w) := by
  have hlen := hl.1
  have HL := Lib.hid hl
  have HT := Lib.hid hT
  have HM := Lib.hid hM
  have HNd := Lib.hid hnode
  have HTd := Lib.hid hTd
  have HTb := Lib.hid hTb
  clear hl hT hM hnode hTd hTb
  go_enter Tryz.func65, Tryz.ntmps65
  go_wp2_with fail
  go_loopw [3, 4] (fun x y wr => ∃ j : Nat, 2 * j ≤ n ∧ y = .int .i64 ((2 * j : Nat) : Int) ∧ OwnT wr w.heap.size x (aboveB (l.take (2 * j))) ∧ T wr ∧ Below w.heap.size w wr) (fun _ y _ => n - (intOf y).toNat)
  case atStart => exact ⟨0, by omega, rfl, World.ownsRow_nil _ _ _ _, HT.out, Below.refl _ _⟩
  case round =>
    obtain ⟨j, hj, rfl, hown, ht, hbel⟩ := hrel
    have HO := Lib.hid hown
    have HTr := Lib.hid ht
    have HB := Lib.hid hbel
    have hbz := hbel.size
    clear hown ht hbel
    obtain ⟨p, hp⟩ : ∃ p : Nat, 2 * j = p := ⟨_, rfl⟩
    obtain ⟨q, hq⟩ : ∃ q : Nat, p + 1 = q := ⟨_, rfl⟩
    have hqi : (p : Int) + 1 = (q : Int) := by omega
    have hqw : IntKind.i64.wrap (q : Int) = (q : Int) := by rw [IntKind.wrap_i64]; omega
    rw [hp]
    have hAl : (aboveB (l.take p)).length = j := by rw [above_len, List.length_take]; omega
    by_cases hlt : q < n
    · have hki : (q : Int) < (n : Int) := by omega
      have hpn : (p : Int) < (n : Int) := by omega
      have hp0 : (0 : Int) ≤ (p : Int) := by omega
      have hq0 : (0 : Int) ≤ (q : Int) := by omega
      obtain ⟨b, off, rfl, hcell⟩ := HL.out.2 (by omega)
      have hbw0 : b < w.heap.size := block_lt_of_cell (hcell p (by omega))
      obtain ⟨X, hX⟩ : ∃ X, l.getD p ByteArray.empty = X := ⟨_, rfl⟩
      obtain ⟨Y, hY⟩ : ∃ Y, l.getD q ByteArray.empty = Y := ⟨_, rfl⟩
      have c1 : wr.cell? ⟨b, off + p, none⟩ = some (.string X) := by rw [← hX]; exact (HB.out.cell (p := ⟨b, off + p, none⟩) hbw0).trans (hcell p (by omega))
      have c2 : wr.cell? ⟨b, off + q, none⟩ = some (.string Y) := by rw [← hY]; exact (HB.out.cell (p := ⟨b, off + q, none⟩) hbw0).trans (hcell q hlt)
      have hXY : X.size + Y.size ≤ M := by
        rw [← hX, ← hY]
        exact HM.out _ (getD_mem_ l p (by omega)) _ (getD_mem_ l q (by omega))
      obtain ⟨W, hW⟩ : ∃ W, nodeB X Y = W := ⟨_, rfl⟩
      have HW := Lib.hid (fun w hw => HNd.out X Y w hXY hw)
      rw [hW] at HW
      have hnext := Lib.hid (show aboveB (l.take (2 * (j + 1))) = aboveB (l.take p) ++ [W] from by
        rw [above_take l j (by omega), hp, hq, hX, hY, hW])
      obtain ⟨Xs, eXs⟩ : ∃ Xs : List Value, (aboveB (l.take p)).map Value.string = Xs := ⟨_, rfl⟩
      have HOk := Lib.hid (show wr.ownsRow w.heap.size 9 1 u3 j Xs from by have := HO.out; rw [hp] at this; unfold OwnT at this; rw [hAl, eXs] at this; exact this)
      have EXs := Lib.hid eXs
      have HAl := Lib.hid hAl
      obtain ⟨i0, hi0, hz0, hz1, hz2⟩ := info_parts infoText
      have hk8 : j + 1 ≤ maxLen := by unfold maxLen; omega
      have hkb : (j + 1) * 16 ≤ 140737488355328 := by omega
      obtain ⟨r, hr⟩ : ∃ r : Nat, 2 * (j + 1) = r := ⟨_, rfl⟩
      have hri : (p : Int) + 2 = (r : Int) := by omega
      have hrw : IntKind.i64.wrap (r : Int) = (r : Int) := by rw [IntKind.wrap_i64]; omega
      have Hr := Lib.hid hr
      have Hj := Lib.hid (show 2 * (j + 1) ≤ n from by omega)
      have hrn : r ≤ n := by omega
      have hpr : p < r := by omega
      clear hW hX hY eXs hlt hcell HO hp hq hAl hXY hr hj
      go_wp2_with fail
      go_region_law ((first
        | (refine step_append_lies _ (by rfl) _ _ _ (by rfl) w.heap.size 9 i0 _ 1 16 Tryz.underlying22 hi0 hz0 hz1 hz2 rfl Nat.one_pos u3 j Xs (by rfl) (by first | exact World.ownsRow.alloc O2.out _ | exact (World.ownsRow.alloc O2.out _).drew) ⟨w2.heap.size, 0, none⟩ 1 1 _ (by rfl) (by rfl) (World.news_of_block (heap_alloc_new w2 _)) (by simp [Value.oneCell']) Nat.one_pos hk8 hkb (by simp; omega) (w2.heap.size + 1) (by simp) ?_; intro gg cap3 w3 hown3 hgrow hat hgl; have HO3 := Lib.hid (show OwnT w3 w.heap.size (.slice (some ⟨gg, 0, none⟩) (j + 1) cap3) (aboveB (l.take (2 * (j + 1)))) from (by unfold OwnT; rw [hnext.out, List.map_append, List.length_append, HAl.out, EXs.out]; exact hown3)); have HB3 := Lib.hid (show Below w.heap.size w w3 from (by first | exact (B2.out.alloc b2 _).grown hgrow (by simp; omega) (fun k' hk' => (O2.out.lt k' hk').1) | exact ((B2.out.alloc b2 _).drew).grown hgrow (by simp; omega) (fun k' hk' => (O2.out.lt k' hk').1))); clear hown3 hgrow hat hgl)
        | (go_simp; go_at_call 71; refine (HW.out _ (by first | exact HTr.out | exact HTd.out _ HTr.out | exact HTd.out _ (HTd.out _ HTr.out))).mono ?_; rintro e w2 ⟨rfl, h2⟩; have h2 : Below wr.heap.size wr w2 := (by first | exact h2 | exact below_of_drew h2 | exact below_of_drew (below_of_drew h2)); have B2 := Lib.hid (HB.out.trans (h2.mono HB.out.size)); have O2 := Lib.hid (own_below HOk.out h2); have b2 := B2.out.size; clear h2)))
      all_goals
        have HT3 := Lib.hid (show T w3 from HTb.out w w3 HT.out HB3.out)
        go_wp2_with fail
        go_roundw
        case rel => exact ⟨j + 1, Hj.out, by rw [Hr.out], HO3.out, HT3.out, HB3.out⟩
        case measure => have e9 : IntKind.i64.wrap (r : Int) = (r : Int) := by { rw [IntKind.wrap_i64]; omega }; simp only [intOf]; first | omega | (rw [e9]; omega)
    · have hki : ¬ (q : Int) < (n : Int) := by omega
      have hd := (above_done l j (by omega) (by omega)).1
      obtain ⟨a2, c2, hv, hS, hfr⟩ := HO.out.strs_
      rw [hd] at hv hS hfr
      subst hv
      have HSt := Lib.hid hS
      have HFr := Lib.hid hfr
      clear hS hfr HO hd hlt hAl
      go_wp2_with fail
      go_ret
      exact ⟨a2, c2, rfl, HSt.out, HB.out, fun p hp => (HFr.out.1 p hp).1, HFr.out.2⟩
end Go.Proofs.YtnbaoihamjdjdaaGreatDoor.Sp

/- The document's own root. -/
namespace Go.Proofs.YtnbaoihamjdjdaaGreatDoor.Sp
open Go Go.RowKit
set_option maxRecDepth 100000

def lenOf : Value → Nat
  | .slice _ n _ => n
  | _ => 0
theorem up_small (l : List ByteArray) (M : Nat) (h64 : 64 ≤ M) (hM : ∀ x ∈ l, ∀ y ∈ l, x.size + y.size ≤ M) : ∀ k, ∀ x ∈ upB k l, ∀ y ∈ upB k l, x.size + y.size ≤ M := by
  intro k
  cases k with
  | zero => exact hM
  | succ k =>
    intro x hx y hy
    rw [up_succ] at hx hy
    rw [above_size _ x hx, above_size _ y hy]
    exact h64
theorem not_may (n : Nat) (h : n = 0) : ¬ mayN n := by
  rintro ⟨m, _, e⟩
  have : 0 < 2 ^ m := Nat.pow_pos (by omega)
  omega

set_option maxHeartbeats 1000000 in
theorem qroot_of (T : World → Prop) (hTd : ∀ w, T w → T w.drew) (hTb : ∀ w w', T w → Below w.heap.size w w' → T w') (M : Nat) (h64 : 64 ≤ M)
    (hnode : ∀ (a b : ByteArray) (w : World), a.size + b.size ≤ M → T w → Calls Tryz.prog 71 #[.string a, .string b] w fun e w' => e = .returned (.string (nodeB a b)) ∧ Below w.heap.size w w')
    (l : List ByteArray) (a : Option Addr) (n cap : Nat) (hn : n ≤ 9223372036854775807) (hM : ∀ x ∈ l, ∀ y ∈ l, x.size + y.size ≤ M) (w : World) (hl : Strs w a n l) (hT : T w) :
    Calls Tryz.prog 33 #[.slice a n cap] w fun e w' => e = .returned (.string (rootB l)) ∧ Below w.heap.size w w' := by
  have hlen := hl.1
  by_cases hm : mayN n
  · have hdec : decide (mayN n) = true := decide_eq_true hm
    obtain ⟨h, h7, e⟩ := hm
    have hR := root_pow l h h7 (by rw [hlen, e])
    obtain ⟨R, hRR⟩ : ∃ R, rootB l = R := ⟨_, rfl⟩
    rw [hRR]
    rw [hRR] at hR
    have HR := Lib.hid hR
    have HE := Lib.hid (show l.length = 2 ^ h from by rw [hlen, e])
    have HEn := Lib.hid e
    have Hmay := Lib.hid (qmay_any n hn)
    rw [hdec] at Hmay
    have HA := Lib.hid (fun (l : List ByteArray) (a : Option Addr) (n cap : Nat) (h1 : n ≤ 4294967296) (h2 : ∀ x ∈ l, ∀ y ∈ l, x.size + y.size ≤ M) (w : World) (h3 : Strs w a n l) (h4 : T w) => qabove_of T hTd hTb M hnode l a n cap h1 h2 w h3 h4)
    have HU := Lib.hid (up_small l M h64 hM)
    have HL := Lib.hid hl
    have HT := Lib.hid hT
    have HTb := Lib.hid hTb
    clear hl hT hM hnode hTd hTb hR hRR e hdec
    go_enter Tryz.func33, Tryz.ntmps33
    go_wp2_with fail
    refine (Hmay.out w).mono ?_
    rintro e w1 ⟨rfl, rfl⟩
    go_wp2_with fail
    go_loopw [4] (fun x wr => ∃ (k m : Nat) (a' : Option Addr) (c' : Nat), k + m = h ∧ x = .slice a' (2 ^ m) c' ∧ Strs wr a' (2 ^ m) (upB k l) ∧ T wr ∧ Below w.heap.size w wr) (fun x _ => lenOf x)
    case atStart => exact ⟨0, h, a, cap, by omega, by rw [← HEn.out], by rw [← HEn.out]; exact HL.out, HT.out, Below.refl _ _⟩
    case round =>
      obtain ⟨k, m, a', c', hkm, rfl, hs, ht, hbel⟩ := hrel
      have HS := Lib.hid hs
      have HTr := Lib.hid ht
      have HB := Lib.hid hbel
      clear hs ht hbel
      obtain ⟨N, hN⟩ : ∃ N, 2 ^ m = N := ⟨_, rfl⟩
      rw [hN] at HS ⊢
      have hN128 : N ≤ 128 := by rw [← hN]; exact Nat.pow_le_pow_right (by omega : 0 < 2) (by omega : m ≤ 7)
      have hul := HS.out.1
      cases m with
      | zero =>
        obtain rfl : N = 1 := hN.symm
        obtain rfl : k = h := by omega
        obtain ⟨b, off, rfl, hc⟩ := HS.out.2 (by omega)
        have c0 : wr.cell? ⟨b, off, none⟩ = some (.string R) := by rw [HR.out]; exact hc 0 (by omega)
        clear hN hc
        go_wp2_with fail
        go_ret
        exact ⟨rfl, HB.out⟩
      | succ m =>
        have hN2 : N = 2 * 2 ^ m := by have h9 : 2 ^ (m + 1) = 2 * 2 ^ m := (by rw [Nat.pow_succ, Nat.mul_comm]); omega
        have hpos : 0 < 2 ^ m := Nat.pow_pos (by omega)
        have hNi : 1 < (N : Int) := by omega
        have HA2 := Lib.hid (HA.out (upB k l) a' N c' (by omega) (HU.out k) wr HS.out HTr.out)
        have hnl : (aboveB (upB k l)).length = 2 ^ m := by have h9 := above_len (upB k l); omega
        have Hnl := Lib.hid hnl
        have Hlt := Lib.hid (show 2 ^ m < N from by omega)
        have Hkm := Lib.hid (show k + 1 + m = h from by omega)
        clear hN hN2 hpos hnl hkm
        go_wp2_with fail
        refine HA2.out.mono ?_
        rintro e w2 ⟨a2, c2, rfl, hs2, h2, _⟩
        have B2 := Lib.hid (HB.out.trans (h2.mono HB.out.size))
        have S2 := Lib.hid hs2
        have T2 := Lib.hid (HTb.out w w2 HT.out B2.out)
        clear hs2 h2
        go_wp2_with fail
        go_roundw
        case rel => exact ⟨k + 1, m, a2, c2, Hkm.out, by rw [Hnl.out], by rw [up_succ, ← Hnl.out]; exact S2.out, T2.out, B2.out⟩
        case measure => show (aboveB (upB k l)).length < N; rw [Hnl.out]; exact Hlt.out
  · have hdec : decide (mayN n) = false := decide_eq_false hm
    have hR : rootB l = .empty := by unfold rootB; rw [if_neg (by rw [hlen]; exact hm)]
    have Hmay := Lib.hid (qmay_any n hn)
    rw [hdec] at Hmay
    rw [hR]
    clear hR hdec hm hnode hTd hTb hM
    go_enter Tryz.func33, Tryz.ntmps33
    go_wp2_with fail
    refine (Hmay.out w).mono ?_
    rintro e w1 ⟨rfl, rfl⟩
    go_wp2_with fail
    go_ret
    exact ⟨rfl, Below.refl _ _⟩
end Go.Proofs.YtnbaoihamjdjdaaGreatDoor.Sp

/- The document's own path. -/
namespace Go.Proofs.YtnbaoihamjdjdaaGreatDoor.Sp
open Go Go.RowKit
set_option maxRecDepth 100000

theorem half_lt (I k m : Nat) (h : I < 2 ^ (k + m)) : I / 2 ^ k < 2 ^ m := by
  rw [Nat.div_lt_iff_lt_mul (Nat.pow_pos (by omega)), ← Nat.pow_add, Nat.add_comm]
  exact h

set_option maxHeartbeats 4000000 in
theorem qpath_of (T : World → Prop) (hTd : ∀ w, T w → T w.drew) (hTb : ∀ w w', T w → Below w.heap.size w w' → T w') (M : Nat) (h64 : 64 ≤ M)
    (hnode : ∀ (a b : ByteArray) (w : World), a.size + b.size ≤ M → T w → Calls Tryz.prog 71 #[.string a, .string b] w fun e w' => e = .returned (.string (nodeB a b)) ∧ Below w.heap.size w w')
    (l : List ByteArray) (a : Option Addr) (n cap : Nat) (hn : n ≤ 9223372036854775807) (i : Int) (hM : ∀ x ∈ l, ∀ y ∈ l, x.size + y.size ≤ M) (w : World) (hl : Strs w a n l) (hT : T w) :
    Calls Tryz.prog 30 #[.slice a n cap, .int .i64 i] w (TextsTo (pathB l i) w) := by
  have hlen := hl.1
  by_cases hm : mayN n
  · have hdec : decide (mayN n) = true := decide_eq_true hm
    obtain ⟨h, h7, e⟩ := hm
    have Hmay := Lib.hid (qmay_any n hn)
    rw [hdec] at Hmay
    have HA := Lib.hid (fun (l : List ByteArray) (a : Option Addr) (n cap : Nat) (h1 : n ≤ 4294967296) (h2 : ∀ x ∈ l, ∀ y ∈ l, x.size + y.size ≤ M) (w : World) (h3 : Strs w a n l) (h4 : T w) => qabove_of T hTd hTb M hnode l a n cap h1 h2 w h3 h4)
    have HU := Lib.hid (up_small l M h64 hM)
    have HL := Lib.hid hl
    have HT := Lib.hid hT
    have HTb := Lib.hid hTb
    have HE := Lib.hid (show l.length = 2 ^ h from by rw [hlen, e])
    have HEn := Lib.hid e
    by_cases hin : 0 ≤ i ∧ i < (n : Int)
    · obtain ⟨I, rfl⟩ : ∃ I : Nat, i = (I : Int) := ⟨i.toNat, by omega⟩
      have hIn : I < n := by omega
      have hIi : (I : Int) < (n : Int) := by omega
      have hI0 : ¬ (I : Int) < 0 := by omega
      have hnI : ¬ n ≤ I := by omega
      obtain ⟨R, hR⟩ : ∃ R, pathB l (I : Int) = R := ⟨_, rfl⟩
      have HR := Lib.hid (show R = pathUp h l I from by rw [← hR]; exact path_pow l h I h7 (by rw [hlen, e]) (by omega))
      have HI := Lib.hid (show I < 2 ^ h from by rw [← e]; exact hIn)
      have hI64 : I ≤ 128 := by have : 2 ^ h ≤ 2 ^ 7 := Nat.pow_le_pow_right (by omega) h7; omega
      rw [hR]
      clear hl hT hM hnode hTd hTb e hdec hR hin hIn
      go_enter Tryz.func30, Tryz.ntmps30
      go_wp2_with fail
      refine (Hmay.out w).mono ?_
      rintro e w1 ⟨rfl, rfl⟩
      go_wp2_with fail
      clear hI0 hIi hnI
      go_loopw [1, 6, 7] (fun iv ov lv wr => ∃ (k m : Nat) (a' : Option Addr) (c' : Nat), k + m = h ∧ lv = .slice a' (2 ^ m) c' ∧ iv = .int .i64 ((I / 2 ^ k : Nat) : Int) ∧ OwnT wr w.heap.size ov (pathUp k l I) ∧ Apart ov a' ∧ Strs wr a' (2 ^ m) (upB k l) ∧ T wr ∧ Below w.heap.size w wr) (fun _ _ lv _ => lenOf lv)
      case atStart => exact ⟨0, h, a, cap, by omega, by rw [← HEn.out], by rw [Nat.pow_zero, Nat.div_one], World.ownsRow_nil _ _ _ _, (fun g p hg _ => by cases hg), by rw [← HEn.out]; exact HL.out, HT.out, Below.refl _ _⟩
      case round =>
        obtain ⟨k, m, a', c', hkm, rfl, rfl, hown, hap, hs, ht, hbel⟩ := hrel
        have HAp := Lib.hid hap
        have HO := Lib.hid hown
        have HS := Lib.hid hs
        have HTr := Lib.hid ht
        have HB := Lib.hid hbel
        clear hown hap hs ht hbel
        cases m with
        | zero =>
          obtain rfl : k = h := by omega
          obtain ⟨a2, c2, hv, hS2, hfr⟩ := HO.out.strs_
          rw [← HR.out] at hv hS2 hfr
          subst hv
          have HSt := Lib.hid hS2
          have HFr := Lib.hid hfr
          clear hS2 hfr HO HAp
          go_wp2_with fail
          go_ret
          exact ⟨a2, c2, rfl, HSt.out, HB.out, fun p hp => (HFr.out.1 p hp).1, HFr.out.2⟩
        | succ m =>
          obtain ⟨N, hN⟩ : ∃ N, 2 ^ (m + 1) = N := ⟨_, rfl⟩
          obtain ⟨J, hJ⟩ : ∃ J, I / 2 ^ k = J := ⟨_, rfl⟩
          have hJN : J < N := by rw [← hJ, ← hN]; exact half_lt I k (m + 1) (by rw [hkm]; exact HI.out)
          rw [hN] at HS ⊢
          have hN128 : N ≤ 128 := by rw [← hN]; exact Nat.pow_le_pow_right (by omega : 0 < 2) (by omega : m + 1 ≤ 7)
          have hN2 : N = 2 * 2 ^ m := by have h9 : 2 ^ (m + 1) = 2 * 2 ^ m := (by rw [Nat.pow_succ, Nat.mul_comm]); omega
          have hpos : 0 < 2 ^ m := Nat.pow_pos (by omega)
          have hNi : 1 < (N : Int) := by omega
          have hul := HS.out.1
          have HA2 := Lib.hid (fun w h1 h2 => HA.out (upB k l) a' N c' (by omega) (HU.out k) w h1 h2)
          have Hnl := Lib.hid (show (aboveB (upB k l)).length = 2 ^ m by have h9 := above_len (upB k l); omega)
          have Hlt := Lib.hid (show 2 ^ m < N from by omega)
          have Hkm := Lib.hid (show k + 1 + m = h from by omega)
          have HJ2 := Lib.hid (show I / 2 ^ (k + 1) = J / 2 from by rw [← hJ, Nat.pow_succ, Nat.div_div_eq_div_mul])
          have hstep := path_succ k l I
          rw [hJ] at hstep ⊢
          obtain ⟨q, hq⟩ : ∃ q, sib J = q := ⟨_, rfl⟩
          have hqN : q < N := by rw [← hq]; unfold sib; split <;> omega
          obtain ⟨S, hS⟩ : ∃ S, (upB k l).getD q .empty = S := ⟨_, rfl⟩
          rw [hq, hS] at hstep
          obtain ⟨b, off, rfl, hc⟩ := HS.out.2 (by omega)
          have c1 := hc q hqN
          rw [hS] at c1
          have hplen := path_len k l I
          obtain ⟨Xs, eXs⟩ : ∃ Xs : List Value, (pathUp k l I).map Value.string = Xs := ⟨_, rfl⟩
          have HOk := Lib.hid (show wr.ownsRow w.heap.size 9 1 u6 k Xs from by have := HO.out; unfold OwnT at this; rw [hplen, eXs] at this; exact this)
          have EXs := Lib.hid (And.intro eXs hplen)
          have Hstep := Lib.hid hstep
          obtain ⟨i0, hi0, hz0, hz1, hz2⟩ := info_parts infoText
          have hk8 : k + 1 ≤ maxLen := by unfold maxLen; omega
          have hkb : (k + 1) * 16 ≤ 140737488355328 := by omega
          obtain ⟨J2, hJ2⟩ : ∃ J2, J / 2 = J2 := ⟨_, rfl⟩
          rw [hJ2] at HJ2
          have hdiv : (J : Int).tdiv 2 = (J2 : Int) := by rw [Int.tdiv_eq_ediv_of_nonneg (by omega)]; omega
          have hdiv' : (J : Int) / 2 = (J2 : Int) := by omega
          have hdw : IntKind.i64.wrap (J2 : Int) = (J2 : Int) := by rw [IntKind.wrap_i64]; omega
          have hqi : (q : Int) < (N : Int) := by omega
          have hq0 : (0 : Int) ≤ (q : Int) := by omega
          have hqw : IntKind.i64.wrap (q : Int) = (q : Int) := by rw [IntKind.wrap_i64]; omega
          clear hN hJ hul hstep hS hc hplen eXs hJ2 hkm hpos hN2
          rcases Nat.mod_two_eq_zero_or_one J with hmod | hmod
          · have hmi : (J : Int) % 2 = 0 := by omega
            have htm : (J : Int).tmod 2 = 0 := by rw [Int.tmod_eq_emod_of_nonneg (by omega)]; exact hmi
            have hqe : (J : Int) + 1 = (q : Int) := by rw [← hq]; unfold sib; rw [if_pos hmod]; omega
            clear hq hmod
            go_wp2_with (at_builtin; refine wpList_append_lies _ rfl (.tmp 30) (.tmp 36) 22 rfl w.heap.size 9 i0 (.string .empty) 1 16 Tryz.underlying22 hi0 hz0 hz1 hz2 rfl (by decide) u6 k Xs rfl (HOk.out.alloc _) ⟨wr.heap.size, 0, none⟩ 1 1 [.string S] rfl rfl ?c1 ?c2 (by omega) hk8 hkb ?c5 (wr.heap.size + 1) (by simp) ?_)
            case c1 => intro j u hj; exact new_cell _ _ _ hj
            case c2 => intro u hu; simp at hu; subst hu; rfl
            case c5 => have := HB.out.size; simp; omega
            intro g3 cap3 w3 hown3 hgrow hat hgl
            have HO3 := Lib.hid (show OwnT w3 w.heap.size (.slice (some ⟨g3, 0, none⟩) (k + 1) cap3) (pathUp (k + 1) l I) from by
              unfold OwnT
              rw [Hstep.out, List.map_append, List.length_append, EXs.out.1, EXs.out.2]
              exact hown3)
            have HB3 := Lib.hid (show Below w.heap.size w w3 from by
              refine (HB.out.alloc HB.out.size _).grown hgrow (by have := HB.out.size; simp; omega) ?_
              intro k' hk'
              exact (HOk.out.lt k' hk').1)
            have HT3 := Lib.hid (show T w3 from HTb.out w w3 HT.out HB3.out)
            have hbz := HS.out.lt_ (by omega) _ rfl
            have HS3 := Lib.hid (show Strs w3 (some ⟨b, off, none⟩) N (upB k l) from by
              refine Strs.grown_ (HS.out.below ((Below.refl _ _).alloc (Nat.le_refl _) _)) hgrow ?_
              intro p hp
              injection hp with hp
              subst hp
              intro h0
              exact HAp.out b ⟨b, off, none⟩ h0.symm rfl rfl)
            have Hgl := Lib.hid hgl
            clear hown3 hgrow hat hgl hk8 hkb c1 hqi hq0 hqw hqe
            go_wp2_with fail
            refine (HA2.out w3 HS3.out HT3.out).mono ?_
            rintro e w4 ⟨a4, c4, rfl, hs4, h4, hfr4⟩
            have HB4 := Lib.hid (HB3.out.trans (h4.mono HB3.out.size))
            have HT4 := Lib.hid (HTb.out w w4 HT.out HB4.out)
            have HS4 := Lib.hid hs4
            have HO4 := Lib.hid (show OwnT w4 w.heap.size (.slice (some ⟨g3, 0, none⟩) (k + 1) cap3) (pathUp (k + 1) l I) from own_below HO3.out h4)
            have HAp4 := Lib.hid (show Apart (.slice (some ⟨g3, 0, none⟩) (k + 1) cap3) a4 from fun g p hg hp => by
              have h1 := hfr4.1 p hp
              injection hg with hg
              subst hg
              have h2 := Hgl.out
              simp only
              omega)
            clear hs4 h4 hfr4
            go_wp2_with fail
            go_roundw
            case rel => exact ⟨k + 1, m, a4, c4, Hkm.out, by rw [Hnl.out], by rw [HJ2.out], HO4.out, HAp4.out, by rw [up_succ, ← Hnl.out]; exact HS4.out, HT4.out, HB4.out⟩
            case measure => show (aboveB (upB k l)).length < N; rw [Hnl.out]; exact Hlt.out
          · have hmi : (J : Int) % 2 = 1 := by omega
            have htm : (J : Int).tmod 2 = 1 := by rw [Int.tmod_eq_emod_of_nonneg (by omega)]; exact hmi
            have hqe : (J : Int) - 1 = (q : Int) := by rw [← hq]; unfold sib; rw [if_neg (by omega)]; omega
            have hqe2 : IntKind.i64.wrap ((J : Int) - 1) = (q : Int) := by rw [hqe]; exact hqw
            clear hq hmod hqe
            go_wp2_with (at_builtin; refine wpList_append_lies _ rfl (.tmp 38) (.tmp 44) 22 rfl w.heap.size 9 i0 (.string .empty) 1 16 Tryz.underlying22 hi0 hz0 hz1 hz2 rfl (by decide) u6 k Xs rfl (HOk.out.alloc _) ⟨wr.heap.size, 0, none⟩ 1 1 [.string S] rfl rfl ?c1 ?c2 (by omega) hk8 hkb ?c5 (wr.heap.size + 1) (by simp) ?_)
            case c1 => intro j u hj; exact new_cell _ _ _ hj
            case c2 => intro u hu; simp at hu; subst hu; rfl
            case c5 => have := HB.out.size; simp; omega
            intro g3 cap3 w3 hown3 hgrow hat hgl
            have HO3 := Lib.hid (show OwnT w3 w.heap.size (.slice (some ⟨g3, 0, none⟩) (k + 1) cap3) (pathUp (k + 1) l I) from by
              unfold OwnT
              rw [Hstep.out, List.map_append, List.length_append, EXs.out.1, EXs.out.2]
              exact hown3)
            have HB3 := Lib.hid (show Below w.heap.size w w3 from by
              refine (HB.out.alloc HB.out.size _).grown hgrow (by have := HB.out.size; simp; omega) ?_
              intro k' hk'
              exact (HOk.out.lt k' hk').1)
            have HT3 := Lib.hid (show T w3 from HTb.out w w3 HT.out HB3.out)
            have hbz := HS.out.lt_ (by omega) _ rfl
            have HS3 := Lib.hid (show Strs w3 (some ⟨b, off, none⟩) N (upB k l) from by
              refine Strs.grown_ (HS.out.below ((Below.refl _ _).alloc (Nat.le_refl _) _)) hgrow ?_
              intro p hp
              injection hp with hp
              subst hp
              intro h0
              exact HAp.out b ⟨b, off, none⟩ h0.symm rfl rfl)
            have Hgl := Lib.hid hgl
            clear hown3 hgrow hat hgl hk8 hkb c1 hqi hq0 hqw hqe2
            go_wp2_with fail
            refine (HA2.out w3 HS3.out HT3.out).mono ?_
            rintro e w4 ⟨a4, c4, rfl, hs4, h4, hfr4⟩
            have HB4 := Lib.hid (HB3.out.trans (h4.mono HB3.out.size))
            have HT4 := Lib.hid (HTb.out w w4 HT.out HB4.out)
            have HS4 := Lib.hid hs4
            have HO4 := Lib.hid (show OwnT w4 w.heap.size (.slice (some ⟨g3, 0, none⟩) (k + 1) cap3) (pathUp (k + 1) l I) from own_below HO3.out h4)
            have HAp4 := Lib.hid (show Apart (.slice (some ⟨g3, 0, none⟩) (k + 1) cap3) a4 from fun g p hg hp => by
              have h1 := hfr4.1 p hp
              injection hg with hg
              subst hg
              have h2 := Hgl.out
              simp only
              omega)
            clear hs4 h4 hfr4
            go_wp2_with fail
            go_roundw
            case rel => exact ⟨k + 1, m, a4, c4, Hkm.out, by rw [Hnl.out], by rw [HJ2.out], HO4.out, HAp4.out, by rw [up_succ, ← Hnl.out]; exact HS4.out, HT4.out, HB4.out⟩
            case measure => show (aboveB (upB k l)).length < N; rw [Hnl.out]; exact Hlt.out
    · have hR : pathB l i = [] := by unfold pathB; rw [if_neg (by rw [hlen]; omega)]
      rw [hR]
      have HEnd := Lib.hid (fun (w' : World) (h : Below w.heap.size w w') => (⟨none, 0, rfl, ⟨rfl, fun hp => absurd hp (by simp)⟩, h, (fun p hp => by cases hp), Nat.le_refl _⟩ : TextsTo [] w (.returned (.slice none 0 0)) w'))
      clear hl hT hM hnode hTd hTb e hdec hR HA HU HTb HE
      rcases (show i < 0 ∨ (0 ≤ i ∧ (n : Int) ≤ i) by omega) with h0 | ⟨h0, h1⟩
      · clear hin
        go_enter Tryz.func30, Tryz.ntmps30
        go_wp2_with fail
        refine (Hmay.out w).mono ?_
        rintro e w1 ⟨rfl, rfl⟩
        go_wp2_with fail
        go_ret
        exact HEnd.out _ (Below.refl _ _)
      · have h0b : ¬ i < 0 := by omega
        clear hin
        go_enter Tryz.func30, Tryz.ntmps30
        go_wp2_with fail
        refine (Hmay.out w).mono ?_
        rintro e w1 ⟨rfl, rfl⟩
        go_wp2_with fail
        go_ret
        exact HEnd.out _ (Below.refl _ _)
  · have hdec : decide (mayN n) = false := decide_eq_false hm
    have hR : pathB l i = [] := by unfold pathB; rw [if_neg (by rw [hlen]; exact fun h => hm h.1)]
    have Hmay := Lib.hid (qmay_any n hn)
    rw [hdec] at Hmay
    rw [hR]
    have HEnd := Lib.hid (fun (w' : World) (h : Below w.heap.size w w') => (⟨none, 0, rfl, ⟨rfl, fun hp => absurd hp (by simp)⟩, h, (fun p hp => by cases hp), Nat.le_refl _⟩ : TextsTo [] w (.returned (.slice none 0 0)) w'))
    clear hR hdec hm hnode hTd hTb hM
    go_enter Tryz.func30, Tryz.ntmps30
    go_wp2_with fail
    refine (Hmay.out w).mono ?_
    rintro e w1 ⟨rfl, rfl⟩
    go_wp2_with fail
    go_ret
    exact HEnd.out _ (Below.refl _ _)
end Go.Proofs.YtnbaoihamjdjdaaGreatDoor.Sp

/- The document's own Node, and the input of one. -/
namespace Go.Proofs.YtnbaoihamjdjdaaGreatDoor.Sp
open Go Go.RowKit
set_option maxRecDepth 100000

theorem len2_two (a b : ByteArray) : len2 [a, b] 2 = 9 + a.size + b.size := by simp [len2]; omega

set_option maxHeartbeats 1000000 in
theorem qnode_any (a b : ByteArray) (w : World) (h : a.size + b.size ≤ 281474976710647) (hT : Tabs w) :
    Calls Tryz.prog 71 #[.string a, .string b] w fun e w' => e = .returned (.string (nodeB a b)) ∧ Below w.heap.size w w' := by
  obtain ⟨R, hR⟩ : ∃ R : ByteArray, R = ⟨(sum (inB (UInt8.ofNat 5) [a, b])).toArray⟩ := ⟨_, rfl⟩
  have HL := Lib.hid (show len2 [a, b] 2 ≤ 281474976710656 from by rw [len2_two]; omega)
  have HR := Lib.hid hR
  have HT := Lib.hid hT
  rw [show nodeB a b = R from by rw [hR]; rfl]
  clear hR hT h
  go_enter Tryz.func71, Tryz.ntmps71
  go_wp2_with fail
  refine (qtag_any 5 (by omega) w.heap.size 2 2 [a, b] _ (strs_blk (Blk.new w 9 _) rfl) (by omega) HL.out (HT.out.alloc _) R HR.out).mono ?_
  rintro e w3 ⟨rfl, h3⟩
  have B3 := Lib.hid (((Below.refl w.heap.size w).alloc (Nat.le_refl _) (.cells #[.string a, .string b] 9)).trans (h3.mono (by simp)))
  clear h3
  go_wp2_with fail
  go_ret
  exact ⟨rfl, B3.out⟩
theorem qinp_any (a b : ByteArray) (g c : Nat) (w : World) (h : Strs w (some ⟨g, 0, none⟩) 2 [a, b]) (hs : a.size + b.size ≤ 281474976710647) :
    Calls Tryz.prog 81 #[.int .u8 5, .slice (some ⟨g, 0, none⟩) 2 c] w fun e w' => e = .returned (.string (inpB a b)) ∧ Below w.heap.size w w' :=
  rinput_any (UInt8.ofNat 5) (some ⟨g, 0, none⟩) 2 c [a, b] w h (by omega) (by rw [len2_two]; omega) (inpB a b) rfl
end Go.Proofs.YtnbaoihamjdjdaaGreatDoor.Sp

/- The document's own climb. -/
namespace Go.Proofs.YtnbaoihamjdjdaaGreatDoor.Sp
open Go Go.RowKit
set_option maxRecDepth 100000

set_option maxHeartbeats 1000000 in
theorem qclimb_of (T : World → Prop) (_hTd : ∀ w, T w → T w.drew) (hTb : ∀ w w', T w → Below w.heap.size w w' → T w') (M : Nat)
    (hnode : ∀ (a b : ByteArray) (w : World), a.size + b.size ≤ M → T w → Calls Tryz.prog 71 #[.string a, .string b] w fun e w' => e = .returned (.string (nodeB a b)) ∧ Below w.heap.size w w')
    (x : ByteArray) (i : Int) (hi : -9223372036854775808 ≤ i ∧ i ≤ 9223372036854775807) (l : List ByteArray) (a : Option Addr) (n cap : Nat) (hn : n ≤ 9223372036854775807) (hM : ∀ y ∈ l, x.size + y.size ≤ M ∧ 32 + y.size ≤ M) (w : World) (hl : Strs w a n l) (hT : T w) :
    Calls Tryz.prog 46 #[.string x, .int .i64 i, .slice a n cap] w fun e w' => e = .returned (.string (climbI x i l)) ∧ Below w.heap.size w w' := by
  have hlen := hl.1
  obtain ⟨I, hI⟩ : ∃ I : Nat, i.toNat = I := ⟨_, rfl⟩
  have hmax : (max i 0 : Int) = (I : Int) := by omega
  have hI9 : I ≤ 9223372036854775807 := by omega
  have hite : (if i < 0 then (0 : Int) else i) = (I : Int) := by split <;> omega
  have hite2 : (if 0 < i then i else (0 : Int)) = (I : Int) := by split <;> omega
  have hite3 : (if i ≤ 0 then (0 : Int) else i) = (I : Int) := by split <;> omega
  have hite4 : (if 0 ≤ i then i else (0 : Int)) = (I : Int) := by split <;> omega
  have HX := Lib.hid (show climbI x i l = climbB x I l from by unfold climbI; rw [hI])
  have HL := Lib.hid hl
  have HT := Lib.hid hT
  have HTb := Lib.hid hTb
  have HM := Lib.hid hM
  have HN := Lib.hid hnode
  clear hl hT hM hnode _hTd hTb
  go_enter Tryz.func46, Tryz.ntmps46
  go_wp2_with fail
  go_loopw [0, 1, 7] (fun s t y wr => ∃ k : Nat, k ≤ n ∧ y = .int .i64 (k : Int) ∧ t = .int .i64 ((I / 2 ^ k : Nat) : Int) ∧ s = .string (climbB x I (l.take k)) ∧ T wr ∧ Below w.heap.size w wr) (fun _ _ y _ => n - (intOf y).toNat)
  case atStart => exact ⟨0, by omega, rfl, by first | (simp; done) | (simp; omega) | (simp only [Nat.pow_zero, Nat.div_one]; congr 1), rfl, HT.out, Below.refl _ _⟩
  case round =>
    obtain ⟨k, hk, rfl, rfl, rfl, ht, hbel⟩ := hrel
    have HTr := Lib.hid ht
    have HB := Lib.hid hbel
    clear ht hbel
    obtain ⟨C, hC⟩ : ∃ C, climbB x I (l.take k) = C := ⟨_, rfl⟩
    obtain ⟨J, hJ⟩ : ∃ J, I / 2 ^ k = J := ⟨_, rfl⟩
    have hJ9 : J ≤ 9223372036854775807 := by rw [← hJ]; exact Nat.le_trans (Nat.div_le_self _ _) hI9
    rw [hC, hJ]
    by_cases hlt : k < n
    · have hki : (k : Int) < (n : Int) := by omega
      have hk0 : (0 : Int) ≤ (k : Int) := by omega
      obtain ⟨b, off, rfl, c1⟩ := HL.out.at_ HB.out hlt
      obtain ⟨Y, hY⟩ : ∃ Y, l.getD k ByteArray.empty = Y := ⟨_, rfl⟩
      rw [hY] at c1
      have hCY : C.size + Y.size ≤ M := by
        have h1 := HM.out Y (by rw [← hY]; exact getD_mem_ l k (by omega))
        rcases climb_size (l.take k) x I with ⟨_, h2⟩ | h2
        · rw [← hC, h2]; exact h1.1
        · rw [← hC, h2]; exact h1.2
      have hstep := climb_take l k (by omega) x I
      rw [hC, hJ, hY] at hstep
      have hJ2 : I / 2 ^ (k + 1) = J / 2 := by rw [← hJ, Nat.pow_succ, Nat.div_div_eq_div_mul]
      have HJ2 := Lib.hid hJ2
      obtain ⟨J', hJ'⟩ : ∃ J', J / 2 = J' := ⟨_, rfl⟩
      rw [hJ'] at HJ2
      have hq : (J : Int).tdiv 2 = (J' : Int) := by rw [Int.tdiv_eq_ediv_of_nonneg (by omega)]; omega
      have hq' : (J : Int) / 2 = (J' : Int) := by omega
      have hqw : IntKind.i64.wrap (J' : Int) = (J' : Int) := by rw [IntKind.wrap_i64]; omega
      clear hJ2 hC hJ hlt
      rcases Nat.mod_two_eq_zero_or_one J with hm | hm
      · have hmi : (J : Int) % 2 = 0 := by omega
        have htm : (J : Int).tmod 2 = 0 := by rw [Int.tmod_eq_emod_of_nonneg (by omega)]; exact hmi
        rw [if_pos hm] at hstep
        obtain ⟨W, hW⟩ : ∃ W, nodeB C Y = W := ⟨_, rfl⟩
        rw [hW] at hstep
        have HS := Lib.hid hstep
        have HW := Lib.hid (HN.out C Y wr hCY HTr.out)
        rw [hW] at HW
        clear hstep hW hm hJ' hY
        go_wp2_with fail
        refine HW.out.mono ?_
        rintro e w2 ⟨rfl, h2⟩
        have B2 := Lib.hid (HB.out.trans (h2.mono HB.out.size))
        have T2 := Lib.hid (HTb.out w w2 HT.out B2.out)
        clear h2
        go_wp2_with fail
        go_roundw
        case rel => exact ⟨k + 1, by omega, by go_num, by rw [HJ2.out], by rw [HS.out], T2.out, B2.out⟩
        case measure => simp [intOf]; omega
      · have hmi : (J : Int) % 2 = 1 := by omega
        have htm : (J : Int).tmod 2 = 1 := by rw [Int.tmod_eq_emod_of_nonneg (by omega)]; exact hmi
        rw [if_neg (by omega)] at hstep
        obtain ⟨W, hW⟩ : ∃ W, nodeB Y C = W := ⟨_, rfl⟩
        rw [hW] at hstep
        have HS := Lib.hid hstep
        have HW := Lib.hid (HN.out Y C wr (by omega) HTr.out)
        rw [hW] at HW
        clear hstep hW hm hJ' hY
        go_wp2_with fail
        refine HW.out.mono ?_
        rintro e w2 ⟨rfl, h2⟩
        have B2 := Lib.hid (HB.out.trans (h2.mono HB.out.size))
        have T2 := Lib.hid (HTb.out w w2 HT.out B2.out)
        clear h2
        go_wp2_with fail
        go_roundw
        case rel => exact ⟨k + 1, by omega, by go_num, by rw [HJ2.out], by rw [HS.out], T2.out, B2.out⟩
        case measure => simp [intOf]; omega
    · have hki : ¬ (k : Int) < (n : Int) := by omega
      obtain rfl : k = n := by omega
      have hall : climbI x i l = C := by rw [HX.out, ← hC, List.take_of_length_le (by omega)]
      have Hall := Lib.hid hall
      clear hall hC hJ hlt
      go_wp2_with fail
      go_ret
      exact ⟨by rw [Hall.out]; rfl, HB.out⟩
end Go.Proofs.YtnbaoihamjdjdaaGreatDoor.Sp
