/- The document's own root. -/
import Derived.Test.YtdkjlijmejleoaaDoorTreAbove
namespace Go.Proofs.YtdkjlijmejleoaaDoor.Sp
open Go Go.RowKit
set_option maxRecDepth 100000

def lenOf : Value → Nat
  | .slice _ n _ => n
  | _ => 0
theorem up_small (l : List ByteArray) (M : Nat) (h64 : 64 ≤ M) (hM : ∀ x ∈ l, ∀ y ∈ l, x.size + y.size ≤ M) : ∀ k, ∀ x ∈ upB k l, ∀ y ∈ upB k l, x.size + y.size ≤ M := by
  intro k
  cases k with
  | zero => exact hM
  | succ k =>
    intro x hx y hy
    rw [up_succ] at hx hy
    rw [above_size _ x hx, above_size _ y hy]
    exact h64
theorem not_may (n : Nat) (h : n = 0) : ¬ mayN n := by
  rintro ⟨m, _, e⟩
  have : 0 < 2 ^ m := Nat.pow_pos (by omega)
  omega

set_option maxHeartbeats 1000000 in
theorem qroot_of (T : World → Prop) (hTd : ∀ w, T w → T w.drew) (hTb : ∀ w w', T w → Below w.heap.size w w' → T w') (M : Nat) (h64 : 64 ≤ M)
    (hnode : ∀ (a b : ByteArray) (w : World), a.size + b.size ≤ M → T w → Calls Tryd.prog 41 #[.string a, .string b] w fun e w' => e = .returned (.string (nodeB a b)) ∧ Below w.heap.size w w')
    (l : List ByteArray) (a : Option Addr) (n cap : Nat) (hn : n ≤ 9223372036854775807) (hM : ∀ x ∈ l, ∀ y ∈ l, x.size + y.size ≤ M) (w : World) (hl : Strs w a n l) (hT : T w) :
    Calls Tryd.prog 14 #[.slice a n cap] w fun e w' => e = .returned (.string (rootB l)) ∧ Below w.heap.size w w' := by
  have hlen := hl.1
  by_cases hm : mayN n
  · have hdec : decide (mayN n) = true := decide_eq_true hm
    obtain ⟨h, h7, e⟩ := hm
    have hR := root_pow l h h7 (by rw [hlen, e])
    obtain ⟨R, hRR⟩ : ∃ R, rootB l = R := ⟨_, rfl⟩
    rw [hRR]
    rw [hRR] at hR
    have HR := Lib.hid hR
    have HE := Lib.hid (show l.length = 2 ^ h from by rw [hlen, e])
    have HEn := Lib.hid e
    have Hmay := Lib.hid (qmay_any n hn)
    rw [hdec] at Hmay
    have HA := Lib.hid (fun (l : List ByteArray) (a : Option Addr) (n cap : Nat) (h1 : n ≤ 4294967296) (h2 : ∀ x ∈ l, ∀ y ∈ l, x.size + y.size ≤ M) (w : World) (h3 : Strs w a n l) (h4 : T w) => qabove_of T hTd hTb M hnode l a n cap h1 h2 w h3 h4)
    have HU := Lib.hid (up_small l M h64 hM)
    have HL := Lib.hid hl
    have HT := Lib.hid hT
    have HTb := Lib.hid hTb
    clear hl hT hM hnode hTd hTb hR hRR e hdec
    go_enter Tryd.func14, Tryd.ntmps14
    go_wp2_with fail
    refine (Hmay.out w).mono ?_
    rintro e w1 ⟨rfl, rfl⟩
    go_wp2_with fail
    go_loopw [4] (fun x wr => ∃ (k m : Nat) (a' : Option Addr) (c' : Nat), k + m = h ∧ x = .slice a' (2 ^ m) c' ∧ Strs wr a' (2 ^ m) (upB k l) ∧ T wr ∧ Below w.heap.size w wr) (fun x _ => lenOf x)
    case atStart => exact ⟨0, h, a, cap, by omega, by rw [← HEn.out], by rw [← HEn.out]; exact HL.out, HT.out, Below.refl _ _⟩
    case round =>
      obtain ⟨k, m, a', c', hkm, rfl, hs, ht, hbel⟩ := hrel
      have HS := Lib.hid hs
      have HTr := Lib.hid ht
      have HB := Lib.hid hbel
      clear hs ht hbel
      obtain ⟨N, hN⟩ : ∃ N, 2 ^ m = N := ⟨_, rfl⟩
      rw [hN] at HS ⊢
      have hN128 : N ≤ 128 := by rw [← hN]; exact Nat.pow_le_pow_right (by omega : 0 < 2) (by omega : m ≤ 7)
      have hul := HS.out.1
      cases m with
      | zero =>
        obtain rfl : N = 1 := hN.symm
        obtain rfl : k = h := by omega
        obtain ⟨b, off, rfl, hc⟩ := HS.out.2 (by omega)
        have c0 : wr.cell? ⟨b, off, none⟩ = some (.string R) := by rw [HR.out]; exact hc 0 (by omega)
        clear hN hc
        go_wp2_with fail
        go_ret
        exact ⟨rfl, HB.out⟩
      | succ m =>
        have hN2 : N = 2 * 2 ^ m := by have h9 : 2 ^ (m + 1) = 2 * 2 ^ m := (by rw [Nat.pow_succ, Nat.mul_comm]); omega
        have hpos : 0 < 2 ^ m := Nat.pow_pos (by omega)
        have hNi : 1 < (N : Int) := by omega
        have HA2 := Lib.hid (HA.out (upB k l) a' N c' (by omega) (HU.out k) wr HS.out HTr.out)
        have hnl : (aboveB (upB k l)).length = 2 ^ m := by have h9 := above_len (upB k l); omega
        have Hnl := Lib.hid hnl
        have Hlt := Lib.hid (show 2 ^ m < N from by omega)
        have Hkm := Lib.hid (show k + 1 + m = h from by omega)
        clear hN hN2 hpos hnl hkm
        go_wp2_with fail
        refine HA2.out.mono ?_
        rintro e w2 ⟨a2, c2, rfl, hs2, h2, _⟩
        have B2 := Lib.hid (HB.out.trans (h2.mono HB.out.size))
        have S2 := Lib.hid hs2
        have T2 := Lib.hid (HTb.out w w2 HT.out B2.out)
        clear hs2 h2
        go_wp2_with fail
        go_roundw
        case rel => exact ⟨k + 1, m, a2, c2, Hkm.out, by rw [Hnl.out], by rw [up_succ, ← Hnl.out]; exact S2.out, T2.out, B2.out⟩
        case measure => show (aboveB (upB k l)).length < N; rw [Hnl.out]; exact Hlt.out
  · have hdec : decide (mayN n) = false := decide_eq_false hm
    have hR : rootB l = .empty := by unfold rootB; rw [if_neg (by rw [hlen]; exact hm)]
    have Hmay := Lib.hid (qmay_any n hn)
    rw [hdec] at Hmay
    rw [hR]
    clear hR hdec hm hnode hTd hTb hM
    go_enter Tryd.func14, Tryd.ntmps14
    go_wp2_with fail
    refine (Hmay.out w).mono ?_
    rintro e w1 ⟨rfl, rfl⟩
    go_wp2_with fail
    go_ret
    exact ⟨rfl, Below.refl _ _⟩
end Go.Proofs.YtdkjlijmejleoaaDoor.Sp
