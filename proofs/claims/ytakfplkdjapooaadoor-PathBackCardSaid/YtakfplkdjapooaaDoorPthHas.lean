/- Package path: whether an element is among those of a kind's strings: slices.Index, slices.Contains at elements. -/
import Derived.Test.YtakfplkdjapooaaDoorPthEls
namespace Go.Proofs.YtakfplkdjapooaaDoor.Sp
open Go Go.RowKit

/-- A block holds elements, two cells each. -/
def Lies (w : World) (g : Nat) (l : List (Nat × List UInt8)) : Prop := ∀ (j : Nat) e, l[j]? = some e → w.cell? ⟨g, j * 2, none⟩ = some (.int .i64 (e.1 : Int)) ∧ w.cell? ⟨g, j * 2 + 1, none⟩ = some (.string ⟨e.2.toArray⟩)

set_option maxHeartbeats 1000000 in
theorem index_els (l : List (Nat × List UInt8)) (n g : Nat) (hn : l.length = n) (hn5 : n ≤ 5) (e : Nat × List UInt8) (w : World) (hl : Lies w g l) (hg : g < w.heap.size) :
    Calls Tryd.prog 30 #[.slice (some ⟨g, 0, none⟩) n n, .agg #[.int .i64 (e.1 : Int), .string ⟨e.2.toArray⟩]] w fun x w' =>
      (∃ R : Int, x = .returned (.int .i64 R) ∧ ((0 : Int) ≤ R ↔ e ∈ l)) ∧ Below w.heap.size w w' := by
  obtain ⟨r, u⟩ := e
  obtain ⟨U, hU⟩ : ∃ U : ByteArray, ⟨u.toArray⟩ = U := ⟨_, rfl⟩
  simp only
  rw [hU]
  have HU := Lib.hid hU
  have HL := Lib.hid hl
  have HN := Lib.hid hn
  clear hl hU hn
  have HB := Lib.hid (show Below w.heap.size w (w.alloc (.cells #[.int .i64 (r : Int), .string U] 44)) from below_more (Below.refl _ _) _)
  have HC := Lib.hid (show Lies (w.alloc (.cells #[.int .i64 (r : Int), .string U] 44)) g l from fun j e h => ⟨(HB.out.cell (p := ⟨g, j * 2, none⟩) hg).trans (HL.out j e h).1, (HB.out.cell (p := ⟨g, j * 2 + 1, none⟩) hg).trans (HL.out j e h).2⟩)
  go_enter Tryd.func30, Tryd.ntmps30
  go_wp2_with fail
  obtain ⟨W, hW⟩ : ∃ W, w.alloc (.cells #[.int .i64 (r : Int), .string U] 44) = W := ⟨_, rfl⟩
  have k0 : W.cell? ⟨w.heap.size, 0, none⟩ = some (.int .i64 (r : Int)) := by rw [← hW]; exact (Blk.new w 44 #[.int .i64 (r : Int), .string U]).cell 0
  have k1 : W.cell? ⟨w.heap.size, 1, none⟩ = some (.string U) := by rw [← hW]; exact (Blk.new w 44 #[.int .i64 (r : Int), .string U]).cell 1
  rw [hW] at HB HC
  rw [hW]
  clear hW
  go_loopw [5, 8] (fun _ i wr => ∃ j m : Nat, j ≤ n ∧ i = .int .i64 (j : Int) ∧ wr = W.drewN m ∧ Hid ((r, u) ∉ l.take j)) (fun _ i _ => n - (intOf i).toNat)
  case atStart => exact ⟨0, 0, by omega, rfl, rfl, by simp [Hid]⟩
  case round =>
    obtain ⟨j, m, hj, rfl, rfl, HA⟩ := hrel
    by_cases hlt : j < n
    · obtain ⟨⟨a, b⟩, hab⟩ : ∃ e, l[j]? = some e := ⟨_, List.getElem?_eq_getElem (by rw [HN.out]; exact hlt)⟩
      obtain ⟨c0, c1⟩ := HC.out j _ hab
      simp only at c0 c1
      obtain ⟨S, hS⟩ : ∃ S : ByteArray, ⟨b.toArray⟩ = S := ⟨_, rfl⟩
      rw [hS] at c1
      have Hab := Lib.hid (And.intro hab hS)
      clear hab hS
      have hlti : (j : Int) < (n : Int) := by omega
      by_cases hra : r = a
      · subst hra
        by_cases hus : U = S
        · subst hus
          have HF := Lib.hid (show (r, u) ∈ l from by
            obtain ⟨h1, h2⟩ := Hab.out
            have h3 : b = u := by have := congrArg (fun x => x.data.toList) (h2.trans HU.out.symm); simpa using this
            rw [← h3]; exact List.mem_of_getElem? h1)
          go_wp2_with fail
          go_quiet (fail)
          go_wp2_with fail
          go_ret
          exact ⟨⟨(j : Int), rfl, by simp [HF.out]⟩, below_drewN (below_drewN HB.out _) _⟩
        · have hne : (U.toList == S.toList) = false := by
            rw [beq_eq_false_iff_ne]; intro h
            rw [ByteArray.toList_eq, ByteArray.toList_eq] at h
            exact hus (list_inj h)
          have HN2 := Lib.hid (show (r, u) ∉ l.take (j + 1) from by
            obtain ⟨h1, h2⟩ := Hab.out
            rw [List.take_add_one, h1]
            intro h
            rcases List.mem_append.1 h with h | h
            · exact HA.out h
            · simp at h; exact hus (by rw [← HU.out, ← h2, h]))
          clear hus
          go_wp2_with fail
          go_quiet (fail)
          go_wp2_with fail
          go_roundw
          case rel => exact ⟨j + 1, _, by omega, by go_num, rfl, HN2⟩
          case measure => simp [intOf]; omega
      · have hne : ((r : Int) == (a : Int)) = false := by
          rw [beq_eq_false_iff_ne]; omega
        have HN2 := Lib.hid (show (r, u) ∉ l.take (j + 1) from by
          obtain ⟨h1, h2⟩ := Hab.out
          rw [List.take_add_one, h1]
          intro h
          rcases List.mem_append.1 h with h | h
          · exact HA.out h
          · simp at h; exact hra h.1)
        clear hra
        go_wp2_with fail
        go_quiet (fail)
        go_wp2_with fail
        go_roundw
        case rel => exact ⟨j + 1, _, by omega, by go_num, rfl, HN2⟩
        case measure => simp [intOf]; omega
    · have hlti : ¬ (j : Int) < (n : Int) := by omega
      have HF := Lib.hid (show (r, u) ∉ l from by
        have h := HA.out
        rwa [List.take_of_length_le (by rw [HN.out]; omega)] at h)
      go_wp2_with fail
      go_ret
      exact ⟨⟨-1, rfl, by simp [HF.out]⟩, below_drewN HB.out _⟩

theorem flat_at : ∀ (l : List (Nat × List UInt8)) (j : Nat) e, l[j]? = some e → (l.flatMap elV)[j * 2]? = some (.int .i64 (e.1 : Int)) ∧ (l.flatMap elV)[j * 2 + 1]? = some (.string ⟨e.2.toArray⟩)
  | [], _, _, h => by simp at h
  | x :: l, 0, e, h => by
    have : x = e := by simpa using h
    subst this
    exact ⟨rfl, rfl⟩
  | x :: l, j + 1, e, h => by
    have h' : l[j]? = some e := by simpa using h
    obtain ⟨h1, h2⟩ := flat_at l j e h'
    rw [List.flatMap_cons]
    refine ⟨?_, ?_⟩
    · rw [show (j + 1) * 2 = (elV x).length + j * 2 from by show (j + 1) * 2 = 2 + j * 2; omega, List.getElem?_append_right (Nat.le_add_right ..), Nat.add_sub_cancel_left]; exact h1
    · rw [show (j + 1) * 2 + 1 = (elV x).length + (j * 2 + 1) from by show (j + 1) * 2 + 1 = 2 + (j * 2 + 1); omega, List.getElem?_append_right (Nat.le_add_right ..), Nat.add_sub_cancel_left]; exact h2
theorem lies_blk {w : World} {g k : Nat} {t : TypeId} (h : Blk w g t (elsV k)) : Lies w g (els k) := fun j e hj => by
  obtain ⟨h1, h2⟩ := flat_at _ j e hj
  refine ⟨(h.cell _).trans ?_, (h.cell _).trans ?_⟩
  · unfold elsV; rw [List.getElem?_toArray]; exact h1
  · unfold elsV; rw [List.getElem?_toArray]; exact h2
theorem els_len (k : Nat) : (els k).length = 5 := by
  unfold els; split <;> rfl
theorem els_B (k : Nat) (h1 : 1 ≤ k) (h8 : k ≤ 8) : ((3, []) ∈ els k) = (two k = true) := by
  match k, h1, h8 with
  | 1, _, _ | 2, _, _ | 3, _, _ | 4, _, _ | 5, _, _ | 6, _, _ | 7, _, _ | 8, _, _ => decide

set_option maxHeartbeats 1000000 in
theorem contains_B (k g : Nat) (h1 : 1 ≤ k) (h8 : k ≤ 8) (t : TypeId) (w : World) (hl : Blk w g t (elsV k)) :
    Calls Tryd.prog 24 #[.slice (some ⟨g, 0, none⟩) 5 5, .agg #[.int .i64 3, .string ⟨#[]⟩]] w fun e w' => e = .returned (.bool (two k)) ∧ Below w.heap.size w w' := by
  have HL := Lib.hid hl
  clear hl
  have HB := Lib.hid (show Below w.heap.size w (w.alloc (.cells #[.int .i64 3, .string ⟨#[]⟩] 44)) from below_more (Below.refl _ _) _)
  have Hk := Lib.hid (els_B k h1 h8)
  go_enter Tryd.func24, Tryd.ntmps24
  go_wp2_with fail
  have HL2 := Lib.hid (lies_blk (HL.out.alloc (.cells #[.int .i64 3, .string ⟨#[]⟩] 44)))
  refine (index_els (els k) 5 g (els_len k) (by omega) (3, []) _ HL2.out (by have := HL.out.lt; simp; omega)).mono ?_
  rintro x w' ⟨⟨R, rfl, hR⟩, hb⟩
  have HB2 := Lib.hid (HB.out.trans (hb.mono (by simp)))
  have HR := Lib.hid (show decide (0 ≤ R) = two k from by
    rw [Hk.out] at hR
    cases h2 : two k with
    | true => rw [h2] at hR; exact decide_eq_true (hR.2 rfl)
    | false => rw [h2] at hR; exact decide_eq_false (fun h => by have := hR.1 h; cases this))
  clear hR hb HL2
  go_wp2_with fail
  go_ret
  exact ⟨by show Ending.returned (.bool (decide (0 ≤ R))) = _; rw [HR.out], HB2.out⟩

set_option maxHeartbeats 1000000 in
theorem contain_B (k : Nat) (h1 : 1 ≤ k) (h8 : k ≤ 8) (w : World) :
    Calls Tryd.prog 18 #[.agg (elsV k), .agg #[.int .i64 3, .string ⟨#[]⟩]] w fun e w' => e = .returned (.bool (two k)) ∧ Below w.heap.size w w' := by
  obtain ⟨V, hV⟩ : ∃ V, elsV k = V := ⟨_, rfl⟩
  have hVs : V.size = 10 := by rw [← hV]; unfold elsV; match k, h1, h8 with
    | 1, _, _ | 2, _, _ | 3, _, _ | 4, _, _ | 5, _, _ | 6, _, _ | 7, _, _ | 8, _, _ => rfl
  rw [hV]
  go_enter Tryd.func18, Tryd.ntmps18
  have HL := Lib.hid (((Blk.new w 46 V).alloc (.cells #[.int .i64 3, .string ⟨#[]⟩] 44)).drew)
  have HB := Lib.hid (below_drew (below_more (below_more (Below.refl w.heap.size w) (.cells V 46)) (.cells #[.int .i64 3, .string ⟨#[]⟩] 44)))
  have HC := Lib.hid (contains_B k w.heap.size h1 h8 46)
  rw [hV] at HC
  go_wp2_with fail
  go_region_law ((go_simp; go_at_call 24; refine (HC.out _ HL.out).mono ?_; rintro e w' ⟨rfl, hb⟩; have HB2 := Lib.hid (HB.out.trans (hb.mono HB.out.size)); clear hb))
  all_goals
    go_wp2_with fail
    go_ret
    exact ⟨rfl, HB2.out⟩

theorem extract_at : ∀ (l : List (Nat × List UInt8)) (j : Nat) e, l[j]? = some e → ((l.flatMap elV).take (j * 2 + 2)).drop (j * 2) = elV e
  | [], _, _, h => by simp at h
  | x :: l, 0, e, h => by
    have : x = e := by simpa using h
    subst this
    rfl
  | x :: l, j + 1, e, h => by
    have h' : l[j]? = some e := by simpa using h
    have ih := extract_at l j e h'
    rw [List.flatMap_cons, show (j + 1) * 2 + 2 = (j * 2 + 2) + 1 + 1 from by omega, show (j + 1) * 2 = j * 2 + 1 + 1 from by omega]
    exact ih
theorem index_el (k j : Nat) (e : Nat × List UInt8) (h : (els k)[j]? = some e) (w : World) :
    (Instr.index 46 (.agg (elsV k)) (.int .i64 (j : Int))).run Tryd.prog w = .ok (.agg #[.int .i64 (e.1 : Int), .string ⟨e.2.toArray⟩]) w := by
  have hj : j < 5 := by
    have := (List.getElem?_eq_some_iff.1 h).1
    rwa [els_len] at this
  have hx : (elsV k).extract (j * 2) (j * 2 + 2) = #[.int .i64 (e.1 : Int), .string ⟨e.2.toArray⟩] := by
    unfold elsV
    have := extract_at _ j e h
    rw [← Array.toList_inj, Array.toList_extract, List.extract_eq_drop_take', this]
    rfl
  have hn : (0 : Int) ≤ (j : Int) ∧ (j : Int) < 5 := by omega
  simp [Instr.index, run_underlying Tryd.underlying46, asIntOf, hn, go_sem, part, Tryd.isAgg44, Tryd.sizeOf44, hx]
  omega
end Go.Proofs.YtakfplkdjapooaaDoor.Sp
