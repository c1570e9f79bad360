/- Package tree: the level above one, of elements with their texts. -/
import Derived.Test.YtdkjlijmejleoaaDoorTrgLow
import Derived.Test.YtdkjlijmejleoaaDoorTreB
import Derived.Deep.RegionLaw
namespace Go.Proofs.YtdkjlijmejleoaaDoor.Sp
open Go Go.RowKit
set_option maxRecDepth 100000

set_option maxHeartbeats 2000000 in
theorem aboveN_any (l V : List ByteArray) (a : Option Addr) (n cap : Nat) (hn : n ≤ 128) (hM : ∀ x ∈ l, ∀ y ∈ l, x.size + y.size ≤ 281474976710647) (w : World) (hl : Nds w a n l V) (hT : Tab w) :
    Calls Tryd.prog 37 #[.slice a n cap, .func (.func 38) #[] #[]] w (NdsTo (aboveB l) (pairsB l) (n / 2) w) := by
  have hlen := hl.1
  have HL := Lib.hid hl
  have HT := Lib.hid hT
  have HM := Lib.hid hM
  obtain ⟨h, hh⟩ : ∃ h, n / 2 = h := ⟨_, rfl⟩
  have hq : (n : Int).tdiv 2 = (h : Int) := by rw [Int.tdiv_eq_ediv_of_nonneg (by omega)]; omega
  have hq' : (n : Int) / 2 = (h : Int) := by omega
  have hqw : IntKind.i64.wrap (h : Int) = (h : Int) := by rw [IntKind.wrap_i64]; omega
  obtain ⟨U, hU⟩ : ∃ U, aboveB l = U := ⟨_, rfl⟩
  obtain ⟨T, hTt⟩ : ∃ T, pairsB l = T := ⟨_, rfl⟩
  have hUl : U.length = h := by rw [← hU, above_len, hlen, hh]
  have HU := Lib.hid (And.intro hU hTt)
  have HUl := Lib.hid hUl
  have hmk := run_make_nodes h (by omega) w
  rw [fillN_made U T] at hmk
  rw [hU, hTt, hh]
  clear hl hT hM hU hUl hTt
  go_enter Tryd.func37, Tryd.ntmps37
  go_wp2_with fail
  go_loopw [13] (fun y wr => ∃ k : Nat, k ≤ h ∧ y = .int .i64 (k : Int) ∧ Blk wr w.heap.size 48 (fillN U T h k) ∧ Below w.heap.size w wr) (fun y _ => h - (intOf y).toNat)
  case atStart => exact ⟨0, by omega, rfl, Blk.new _ _ _, (Below.refl _ _).alloc (Nat.le_refl _) _⟩
  case round =>
    obtain ⟨k, hk, rfl, hblk, hbel⟩ := hrel
    have HK := Lib.hid hblk
    have HB := Lib.hid hbel
    have hbz := hbel.size
    have HTr := Lib.hid (HT.out.below hbel HT.out.lt)
    clear hblk hbel hmk hq hq' hqw
    by_cases hlt : k < h
    · have hki : (k : Int) < (h : Int) := by omega
      have hk0 : (0 : Int) ≤ (k : Int) := by omega
      obtain ⟨p, hp⟩ : ∃ p : Nat, 2 * k = p := ⟨_, rfl⟩
      obtain ⟨q, hq⟩ : ∃ q : Nat, p + 1 = q := ⟨_, rfl⟩
      have hpi : (2 : Int) * (k : Int) = (p : Int) := by omega
      have hpw : IntKind.i64.wrap (p : Int) = (p : Int) := by rw [IntKind.wrap_i64]; omega
      have hqi : (p : Int) + 1 = (q : Int) := by omega
      have hqw : IntKind.i64.wrap (q : Int) = (q : Int) := by rw [IntKind.wrap_i64]; omega
      have hpn : (p : Int) < (n : Int) := by omega
      have hqn : (q : Int) < (n : Int) := by omega
      have hp0 : (0 : Int) ≤ (p : Int) := by omega
      have hq0 : (0 : Int) ≤ (q : Int) := by omega
      obtain ⟨b, rfl, hcell⟩ := HL.out.2 (by omega)
      have hbw0 : b < w.heap.size := block_lt_of_cell (hcell p (by omega)).1
      obtain ⟨X, hX⟩ : ∃ X, l.getD p ByteArray.empty = X := ⟨_, rfl⟩
      obtain ⟨Y, hY⟩ : ∃ Y, l.getD q ByteArray.empty = Y := ⟨_, rfl⟩
      obtain ⟨X2, hX2⟩ : ∃ X, V.getD p ByteArray.empty = X := ⟨_, rfl⟩
      obtain ⟨Y2, hY2⟩ : ∃ Y, V.getD q ByteArray.empty = Y := ⟨_, rfl⟩
      have c1 : wr.cell? ⟨b, p * 2, none⟩ = some (.string X) := by rw [← hX]; exact (HB.out.cell (p := ⟨b, p * 2, none⟩) hbw0).trans (hcell p (by omega)).1
      have c2 : wr.cell? ⟨b, q * 2, none⟩ = some (.string Y) := by rw [← hY]; exact (HB.out.cell (p := ⟨b, q * 2, none⟩) hbw0).trans (hcell q (by omega)).1
      have c3 : wr.cell? ⟨b, p * 2 + 1, none⟩ = some (.string X2) := by rw [← hX2]; exact (HB.out.cell (p := ⟨b, p * 2 + 1, none⟩) hbw0).trans (hcell p (by omega)).2
      have c4 : wr.cell? ⟨b, q * 2 + 1, none⟩ = some (.string Y2) := by rw [← hY2]; exact (HB.out.cell (p := ⟨b, q * 2 + 1, none⟩) hbw0).trans (hcell q (by omega)).2
      have hXY : X.size + Y.size ≤ 281474976710647 := by
        rw [← hX, ← hY]
        exact HM.out _ (getD_mem_ l p (by omega)) _ (getD_mem_ l q (by omega))
      obtain ⟨W, hW⟩ : ∃ W, nodeB X Y = W := ⟨_, rfl⟩
      obtain ⟨I, hI⟩ : ∃ I, inpB X Y = I := ⟨_, rfl⟩
      have hUk : U.getD k .empty = W := by rw [← HU.out.1, above_get l k (by omega), hp, hq, hX, hY, hW]
      have hTk : T.getD k .empty = I := by rw [← HU.out.2, pairs_get l k (by omega), hp, hq, hX, hY, hI]
      have HW := Lib.hid (fun w ht => over_any X X2 Y Y2 w hXY ht)
      rw [hW, hI] at HW
      unfold ndV at HW
      have hset := Lib.hid (show ((fillN U T h k).setIfInBounds (k * 2) (.string W)).setIfInBounds (k * 2 + 1) (.string I) = fillN U T h (k + 1) from by rw [← hUk, ← hTk]; exact fillN_set U T h k hlt)
      have Hlt := Lib.hid hlt
      clear hcell hX hY hX2 hY2 hW hI hUk hTk hp hq hXY hlt hh
      go_wp2_with fail
      go_region_law (go_simp; go_at_call 38; refine (HW.out _ (by first | exact HTr.out | exact (show Tab wr.drew from HTr.out))).mono ?_; rintro e w2 ⟨rfl, h2⟩; have h2 : Below wr.heap.size wr w2 := (by first | exact h2 | exact below_of_drew h2 | exact below_of_drew (below_of_drew h2)); have B2 := Lib.hid (HB.out.trans (h2.mono HB.out.size)); have K2 := Lib.hid (HK.out.below h2 HK.out.lt); have d0 := K2.out.cell (k * 2); have d1 := K2.out.cell (k * 2 + 1); rw [(fillN_get U T h k Hlt.out).1] at d0; rw [(fillN_get U T h k Hlt.out).2] at d1; have f0 := K2.out.frozen (k * 2); have f1 := K2.out.frozen (k * 2 + 1); clear h2)
      all_goals
        go_wp2_with fail
        go_roundw
        case rel => exact ⟨k + 1, Hlt.out, by go_num, by rw [← hset.out]; exact (K2.out.set_ (k * 2) _).set_ (k * 2 + 1) _, (B2.out.setCell (p := ⟨w.heap.size, k * 2, none⟩) (Nat.le_refl _) _).setCell (p := ⟨w.heap.size, k * 2 + 1, none⟩) (Nat.le_refl _) _⟩
        case measure => simp [intOf]; omega
    · have hki : ¬ (k : Int) < (h : Int) := by omega
      obtain rfl : k = h := by omega
      go_wp2_with fail
      go_ret
      exact ⟨some ⟨w.heap.size, 0, none⟩, rfl, fillN_nds HK.out HUl.out, HB.out, fun p hp => by injection hp with hp; subst hp; exact Nat.le_refl _⟩
end Go.Proofs.YtdkjlijmejleoaaDoor.Sp
