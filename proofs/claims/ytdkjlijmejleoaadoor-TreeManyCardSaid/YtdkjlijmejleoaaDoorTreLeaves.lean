/- The statements of package tree: Leaves. -/
import Derived.Test.YtdkjlijmejleoaaDoorTreFill
import Derived.Test.YtdkjlijmejleoaaDoorTreAbove
namespace Go.Proofs.YtdkjlijmejleoaaDoor.Sp
open Go Go.RowKit

/-- The first k of raw texts, made leaves of 32 bytes. -/
def leavesTo (raw : List ByteArray) (k : Nat) : List ByteArray := (List.range k).map fun j => fillB (raw.getD j ByteArray.empty) 32
theorem leavesTo_len (raw : List ByteArray) (k : Nat) : (leavesTo raw k).length = k := by simp [leavesTo]
theorem leavesTo_succ (raw : List ByteArray) (k : Nat) : leavesTo raw (k + 1) = leavesTo raw k ++ [fillB (raw.getD k ByteArray.empty) 32] := by simp [leavesTo, List.range_succ]
theorem leavesTo_size (raw : List ByteArray) (k : Nat) : ∀ x ∈ leavesTo raw k, x.size = 32 := by
  intro x hx
  simp only [leavesTo, List.mem_map, List.mem_range] at hx
  obtain ⟨j, _, rfl⟩ := hx
  exact fillB_size _ _

set_option maxHeartbeats 4000000 in
theorem leaves_any (raw : List ByteArray) (a : Option Addr) (n cap : Nat) (hn : n ≤ 9223372036854775807) (hsz : ∀ x ∈ raw, x.size ≤ 9223372036854775807) (H : Int) (r : Nat) (hr : r < 5)
    (hp : ∀ w, Calls Tryd.prog 25 #[.int .i64 H, .int .i64 5] w fun e w' => e = .returned (.int .i64 (r : Int)) ∧ w = w')
    (w : World) (hl : Strs w a n raw) :
    Calls Tryd.prog 24 #[.slice a n cap, .int .i64 H] w (TextsTo (leavesTo raw (2 ^ r)) w) := by
  have hlen := hl.1
  have HL := Lib.hid hl
  have HP := Lib.hid hp
  have HZ := Lib.hid hsz
  clear hl hp hsz
  go_enter Tryd.func24, Tryd.ntmps24
  go_wp2_with fail
  go_loopw [5, 6] (fun x y wr => ∃ j p : Nat, j ≤ r ∧ Hid (p = 2 ^ j) ∧ x = .int .i64 (p : Int) ∧ y = .int .i64 (j : Int) ∧ Below w.heap.size w wr) (fun _ y _ => r - (intOf y).toNat)
  case atStart => exact ⟨0, 1, by omega, rfl, rfl, rfl, Below.refl _ _⟩
  case round =>
    obtain ⟨j, p, hj, HPj, rfl, rfl, hbel⟩ := hrel
    have HB := Lib.hid hbel
    clear hbel
    have hp32 : p ≤ 32 := by rw [HPj.out]; have : 2 ^ j ≤ 2 ^ 5 := Nat.pow_le_pow_right (by omega) (by omega); omega
    by_cases hlt : j < r
    · have hji : (j : Int) < (r : Int) := by omega
      obtain ⟨q, hq⟩ : ∃ q, 2 * p = q := ⟨_, rfl⟩
      have HQ := Lib.hid (show q = 2 ^ (j + 1) from by rw [← hq, HPj.out, Nat.pow_succ, Nat.mul_comm])
      have hqi : 2 * (p : Int) = (q : Int) := by omega
      have hqw : IntKind.i64.wrap (q : Int) = (q : Int) := by rw [IntKind.wrap_i64]; omega
      clear hq hlt
      go_wp2_with fail
      refine (HP.out _).mono ?_
      rintro e w1 ⟨rfl, rfl⟩
      go_wp2_with fail
      go_roundw
      case rel => exact ⟨j + 1, q, by omega, HQ, rfl, by go_num, HB.out⟩
      case measure => simp [intOf]; omega
    · have hji : ¬ (j : Int) < (r : Int) := by omega
      obtain rfl : j = r := by omega
      obtain ⟨N, hN⟩ : ∃ N, 2 ^ j = N := ⟨_, rfl⟩
      obtain rfl : p = N := by rw [← hN]; exact HPj.out
      have HN := Lib.hid hN
      clear hlt hN HPj
      go_wp2_with fail
      refine (HP.out _).mono ?_
      rintro e w1 ⟨rfl, rfl⟩
      go_wp2_with fail
      go_loopw [7, 8, 9] (fun v y _ wr => ∃ k : Nat, k ≤ p ∧ y = .int .i64 (k : Int) ∧ OwnT wr w.heap.size v (leavesTo raw k) ∧ Below w.heap.size w wr) (fun _ y _ _ => p - (intOf y).toNat)
      case atStart => exact ⟨0, by omega, rfl, World.ownsRow_nil _ _ _ _, HB.out⟩
      case round =>
        obtain ⟨k, hk, rfl, hown, hbel⟩ := hrel
        have HO := Lib.hid hown
        have HBr := Lib.hid hbel
        have hbz := hbel.size
        clear hown hbel
        by_cases hlt : k < p
        · have hki : (k : Int) < (p : Int) := by omega
          obtain ⟨X, hX⟩ : ∃ X, raw.getD k ByteArray.empty = X := ⟨_, rfl⟩
          have hXs : X.size ≤ 9223372036854775807 := by
            rw [← hX]
            rcases Nat.lt_or_ge k raw.length with h | h
            · exact HZ.out _ (getD_mem_ raw k h)
            · rw [List.getD_eq_getElem?_getD, List.getElem?_eq_none h]; exact Nat.zero_le _
          have HF := Lib.hid (fill_any X hXs)
          have Hnext := Lib.hid (show leavesTo raw (k + 1) = leavesTo raw k ++ [fillB X 32] from by rw [leavesTo_succ, hX])
          obtain ⟨Xs, eXs⟩ : ∃ Xs : List Value, (leavesTo raw k).map Value.string = Xs := ⟨_, rfl⟩
          have HOk := Lib.hid (show wr.ownsRow w.heap.size 9 1 u7 k Xs from by have := HO.out; unfold OwnT at this; rw [leavesTo_len, eXs] at this; exact this)
          have EXs := Lib.hid eXs
          obtain ⟨i0, hi0, hz0, hz1, hz2⟩ := info_parts infoText
          have hk8 : k + 1 ≤ maxLen := by unfold maxLen; omega
          have hkb : (k + 1) * 16 ≤ 140737488355328 := by omega
          by_cases hkn : k < n
          · have hkni : (k : Int) < (n : Int) := by omega
            have hk0 : (0 : Int) ≤ (k : Int) := by omega
            obtain ⟨b, off, rfl, c1⟩ := HL.out.at_ HBr.out hkn
            rw [hX] at c1
            clear hX hkn hlt eXs hXs
            go_wp2_with fail
            refine (HF.out _).mono ?_
            rintro e w2 ⟨rfl, h2⟩
            have B2 := Lib.hid (HBr.out.trans (h2.mono HBr.out.size))
            have O2 := Lib.hid (own_below HOk.out h2)
            have b2 := B2.out.size
            clear h2
            go_wp2_with (at_builtin; refine wpList_append_own _ rfl (.tmp 31) (.tmp 34) 22 rfl w.heap.size 9 i0 (.string .empty) 1 16 Tryd.underlying22 hi0 hz0 hz1 hz2 rfl (by decide) u7 k Xs rfl (O2.out.alloc _) ⟨w2.heap.size, 0, none⟩ 1 1 [.string (fillB X 32)] rfl rfl ?c1 ?c2 ?c3 ?c4 ?c5 ?_)
            case c1 => intro j u hj; exact new_cell _ _ _ hj
            case c2 => intro u hu; simp at hu; subst hu; rfl
            case c3 => exact hk8
            case c4 => exact hkb
            case c5 => simp; omega
            intro v' w3 hown3 hgrow _
            have HO3 := Lib.hid (show OwnT w3 w.heap.size v' (leavesTo raw (k + 1)) from by
              unfold OwnT
              rw [Hnext.out, List.map_append, List.length_append, leavesTo_len, EXs.out]
              exact hown3)
            have HB3 := Lib.hid (show Below w.heap.size w w3 from by
              refine (B2.out.alloc b2 _).grown hgrow (by simp; omega) ?_
              intro k' hk'
              exact (O2.out.lt k' hk').1)
            clear hown3 hgrow hk8 hkb
            go_wp2_with fail
            go_roundw
            case rel => exact ⟨k + 1, by omega, by go_num, HO3.out, HB3.out⟩
            case measure => simp [intOf]; omega
          · have hkni : ¬ (k : Int) < (n : Int) := by omega
            have hXe : X = ByteArray.empty := by rw [← hX, List.getD_eq_getElem?_getD, List.getElem?_eq_none (by omega)]; rfl
            subst hXe
            clear hX hkn hlt eXs hXs
            go_wp2_with fail
            refine (HF.out _).mono ?_
            rintro e w2 ⟨rfl, h2⟩
            have B2 := Lib.hid (HBr.out.trans (h2.mono HBr.out.size))
            have O2 := Lib.hid (own_below HOk.out h2)
            have b2 := B2.out.size
            clear h2
            go_wp2_with (at_builtin; refine wpList_append_own _ rfl (.tmp 31) (.tmp 34) 22 rfl w.heap.size 9 i0 (.string .empty) 1 16 Tryd.underlying22 hi0 hz0 hz1 hz2 rfl (by decide) u7 k Xs rfl (O2.out.alloc _) ⟨w2.heap.size, 0, none⟩ 1 1 [.string (fillB ByteArray.empty 32)] rfl rfl ?c1 ?c2 ?c3 ?c4 ?c5 ?_)
            case c1 => intro j u hj; exact new_cell _ _ _ hj
            case c2 => intro u hu; simp at hu; subst hu; rfl
            case c3 => exact hk8
            case c4 => exact hkb
            case c5 => simp; omega
            intro v' w3 hown3 hgrow _
            have HO3 := Lib.hid (show OwnT w3 w.heap.size v' (leavesTo raw (k + 1)) from by
              unfold OwnT
              rw [Hnext.out, List.map_append, List.length_append, leavesTo_len, EXs.out]
              exact hown3)
            have HB3 := Lib.hid (show Below w.heap.size w w3 from by
              refine (B2.out.alloc b2 _).grown hgrow (by simp; omega) ?_
              intro k' hk'
              exact (O2.out.lt k' hk').1)
            clear hown3 hgrow hk8 hkb
            go_wp2_with fail
            go_roundw
            case rel => exact ⟨k + 1, by omega, by go_num, HO3.out, HB3.out⟩
            case measure => simp [intOf]; omega
        · have hki : ¬ (k : Int) < (p : Int) := by omega
          obtain rfl : k = p := by omega
          obtain ⟨a2, c2, hv, hS2, hfr⟩ := HO.out.strs_
          subst hv
          have HSt := Lib.hid hS2
          have HFr := Lib.hid hfr
          clear hS2 hfr HO hlt
          go_wp2_with fail
          go_ret
          rw [HN.out]
          exact ⟨a2, c2, rfl, HSt.out, HBr.out, fun p hp => (HFr.out.1 p hp).1, HFr.out.2⟩
end Go.Proofs.YtdkjlijmejleoaaDoor.Sp
