/- The document's own level above one. -/
import Derived.Test.YtdkjlijmejleoaaDoorTreB
import Derived.Deep.RegionLaw
namespace Go.Proofs.YtdkjlijmejleoaaDoor.Sp
open Go Go.RowKit
set_option maxRecDepth 100000

set_option maxHeartbeats 4000000 in
theorem qabove_of (T : World → Prop) (hTd : ∀ w, T w → T w.drew) (hTb : ∀ w w', T w → Below w.heap.size w w' → T w') (M : Nat)
    (hnode : ∀ (a b : ByteArray) (w : World), a.size + b.size ≤ M → T w → Calls Tryd.prog 41 #[.string a, .string b] w fun e w' => e = .returned (.string (nodeB a b)) ∧ Below w.heap.size w w')
    (l : List ByteArray) (a : Option Addr) (n cap : Nat) (hn : n ≤ 4294967296) (hM : ∀ x ∈ l, ∀ y ∈ l, x.size + y.size ≤ M) (w : World) (hl : Strs w a n l) (hT : T w) :
    Calls Tryd.prog 34 #[.slice a n cap] w (TextsTo (aboveB l) w) := by
  have hlen := hl.1
  have HL := Lib.hid hl
  have HT := Lib.hid hT
  have HM := Lib.hid hM
  have HNd := Lib.hid hnode
  have HTd := Lib.hid hTd
  have HTb := Lib.hid hTb
  clear hl hT hM hnode hTd hTb
  go_enter Tryd.func34, Tryd.ntmps34
  go_wp2_with fail
  go_loopw [3, 4] (fun x y wr => ∃ j : Nat, 2 * j ≤ n ∧ y = .int .i64 ((2 * j : Nat) : Int) ∧ OwnT wr w.heap.size x (aboveB (l.take (2 * j))) ∧ T wr ∧ Below w.heap.size w wr) (fun _ y _ => n - (intOf y).toNat)
  case atStart => exact ⟨0, by omega, rfl, World.ownsRow_nil _ _ _ _, HT.out, Below.refl _ _⟩
  case round =>
    obtain ⟨j, hj, rfl, hown, ht, hbel⟩ := hrel
    have HO := Lib.hid hown
    have HTr := Lib.hid ht
    have HB := Lib.hid hbel
    have hbz := hbel.size
    clear hown ht hbel
    obtain ⟨p, hp⟩ : ∃ p : Nat, 2 * j = p := ⟨_, rfl⟩
    obtain ⟨q, hq⟩ : ∃ q : Nat, p + 1 = q := ⟨_, rfl⟩
    have hqi : (p : Int) + 1 = (q : Int) := by omega
    have hqw : IntKind.i64.wrap (q : Int) = (q : Int) := by rw [IntKind.wrap_i64]; omega
    rw [hp]
    have hAl : (aboveB (l.take p)).length = j := by rw [above_len, List.length_take]; omega
    by_cases hlt : q < n
    · have hki : (q : Int) < (n : Int) := by omega
      have hpn : (p : Int) < (n : Int) := by omega
      have hp0 : (0 : Int) ≤ (p : Int) := by omega
      have hq0 : (0 : Int) ≤ (q : Int) := by omega
      obtain ⟨b, off, rfl, hcell⟩ := HL.out.2 (by omega)
      have hbw0 : b < w.heap.size := block_lt_of_cell (hcell p (by omega))
      obtain ⟨X, hX⟩ : ∃ X, l.getD p ByteArray.empty = X := ⟨_, rfl⟩
      obtain ⟨Y, hY⟩ : ∃ Y, l.getD q ByteArray.empty = Y := ⟨_, rfl⟩
      have c1 : wr.cell? ⟨b, off + p, none⟩ = some (.string X) := by rw [← hX]; exact (HB.out.cell (p := ⟨b, off + p, none⟩) hbw0).trans (hcell p (by omega))
      have c2 : wr.cell? ⟨b, off + q, none⟩ = some (.string Y) := by rw [← hY]; exact (HB.out.cell (p := ⟨b, off + q, none⟩) hbw0).trans (hcell q hlt)
      have hXY : X.size + Y.size ≤ M := by
        rw [← hX, ← hY]
        exact HM.out _ (getD_mem_ l p (by omega)) _ (getD_mem_ l q (by omega))
      obtain ⟨W, hW⟩ : ∃ W, nodeB X Y = W := ⟨_, rfl⟩
      have HW := Lib.hid (fun w hw => HNd.out X Y w hXY hw)
      rw [hW] at HW
      have hnext := Lib.hid (show aboveB (l.take (2 * (j + 1))) = aboveB (l.take p) ++ [W] from by
        rw [above_take l j (by omega), hp, hq, hX, hY, hW])
      obtain ⟨Xs, eXs⟩ : ∃ Xs : List Value, (aboveB (l.take p)).map Value.string = Xs := ⟨_, rfl⟩
      have HOk := Lib.hid (show wr.ownsRow w.heap.size 9 1 u3 j Xs from by have := HO.out; rw [hp] at this; unfold OwnT at this; rw [hAl, eXs] at this; exact this)
      have EXs := Lib.hid eXs
      have HAl := Lib.hid hAl
      obtain ⟨i0, hi0, hz0, hz1, hz2⟩ := info_parts infoText
      have hk8 : j + 1 ≤ maxLen := by unfold maxLen; omega
      have hkb : (j + 1) * 16 ≤ 140737488355328 := by omega
      obtain ⟨r, hr⟩ : ∃ r : Nat, 2 * (j + 1) = r := ⟨_, rfl⟩
      have hri : (p : Int) + 2 = (r : Int) := by omega
      have hrw : IntKind.i64.wrap (r : Int) = (r : Int) := by rw [IntKind.wrap_i64]; omega
      have Hr := Lib.hid hr
      have Hj := Lib.hid (show 2 * (j + 1) ≤ n from by omega)
      have hrn : r ≤ n := by omega
      have hpr : p < r := by omega
      clear hW hX hY eXs hlt hcell HO hp hq hAl hXY hr hj
      go_wp2_with fail
      go_region_law ((first
        | (refine step_append_lies _ (by rfl) _ _ _ (by rfl) w.heap.size 9 i0 _ 1 16 Tryd.underlying22 hi0 hz0 hz1 hz2 rfl Nat.one_pos u3 j Xs (by rfl) (by first | exact World.ownsRow.alloc O2.out _ | exact (World.ownsRow.alloc O2.out _).drew) ⟨w2.heap.size, 0, none⟩ 1 1 _ (by rfl) (by rfl) (World.news_of_block (heap_alloc_new w2 _)) (by simp [Value.oneCell']) Nat.one_pos hk8 hkb (by simp; omega) (w2.heap.size + 1) (by simp) ?_; intro gg cap3 w3 hown3 hgrow hat hgl; have HO3 := Lib.hid (show OwnT w3 w.heap.size (.slice (some ⟨gg, 0, none⟩) (j + 1) cap3) (aboveB (l.take (2 * (j + 1)))) from (by unfold OwnT; rw [hnext.out, List.map_append, List.length_append, HAl.out, EXs.out]; exact hown3)); have HB3 := Lib.hid (show Below w.heap.size w w3 from (by first | exact (B2.out.alloc b2 _).grown hgrow (by simp; omega) (fun k' hk' => (O2.out.lt k' hk').1) | exact ((B2.out.alloc b2 _).drew).grown hgrow (by simp; omega) (fun k' hk' => (O2.out.lt k' hk').1))); clear hown3 hgrow hat hgl)
        | (go_simp; go_at_call 41; refine (HW.out _ (by first | exact HTr.out | exact HTd.out _ HTr.out | exact HTd.out _ (HTd.out _ HTr.out))).mono ?_; rintro e w2 ⟨rfl, h2⟩; have h2 : Below wr.heap.size wr w2 := (by first | exact h2 | exact below_of_drew h2 | exact below_of_drew (below_of_drew h2)); have B2 := Lib.hid (HB.out.trans (h2.mono HB.out.size)); have O2 := Lib.hid (own_below HOk.out h2); have b2 := B2.out.size; clear h2)))
      all_goals
        have HT3 := Lib.hid (show T w3 from HTb.out w w3 HT.out HB3.out)
        go_wp2_with fail
        go_roundw
        case rel => exact ⟨j + 1, Hj.out, by rw [Hr.out], HO3.out, HT3.out, HB3.out⟩
        case measure => have e9 : IntKind.i64.wrap (r : Int) = (r : Int) := by { rw [IntKind.wrap_i64]; omega }; simp only [intOf]; first | omega | (rw [e9]; omega)
    · have hki : ¬ (q : Int) < (n : Int) := by omega
      have hd := (above_done l j (by omega) (by omega)).1
      obtain ⟨a2, c2, hv, hS, hfr⟩ := HO.out.strs_
      rw [hd] at hv hS hfr
      subst hv
      have HSt := Lib.hid hS
      have HFr := Lib.hid hfr
      clear hS hfr HO hd hlt hAl
      go_wp2_with fail
      go_ret
      exact ⟨a2, c2, rfl, HSt.out, HB.out, fun p hp => (HFr.out.1 p hp).1, HFr.out.2⟩
end Go.Proofs.YtdkjlijmejleoaaDoor.Sp
