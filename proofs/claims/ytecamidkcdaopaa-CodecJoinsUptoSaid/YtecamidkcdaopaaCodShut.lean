/- Items as arguments. -/
import Derived.Test.YtecamidkcdaopaaShut
import Derived.Test.YtecamidkcdaopaaCodFew
namespace Go.Proofs.Ytecamidkcdaopaa.Sp
open Go Go.ChangeShapes Go.WideShapes Go.ChangeAt Go.RowKit

section
variable {H : Type}
theorem item_fields : ∃ f0 f1 f2 : Field, Try.prog.underlying 28 = some (.struct #[f0, f1, f2]) ∧ (f0.type = 4 ∧ f0.offset = 0) ∧ (f1.type = 26 ∧ f1.offset = 1) ∧ (f2.type = 9 ∧ f2.offset = 2) :=
  ⟨_, _, _, Try.underlying28, ⟨rfl, rfl⟩, ⟨rfl, rfl⟩, ⟨rfl, rfl⟩⟩
/-- An item's datum. -/
def itD (x : It) : DataW H := .agg [.lit (.bool x.t), .lit (.int .u64 (x.n : Int)), .lit (.string x.s.data.toList)]
theorem open_item {enc : TypeId × Value → H} {W : World} {nf : Nat} {cs : List Value} {y : DataW H × List MemPlace} (h : DataW.trod enc Try.prog W 0 (fun _ => true) true nf 28 cs = some y) :
    ∃ x : It, cs = itVs x ∧ y.1 = itD x ∧ x.n < 18446744073709551616 ∧ x.s.size ≤ maxLen := by
  obtain ⟨f0, f1, f2, hs, ⟨t0, o0⟩, ⟨t1, o1⟩, ⟨t2, o2⟩⟩ := item_fields
  obtain ⟨xs, n, _, hx, hl, hlen, hg⟩ := DataW.trod_struct hs h
  have hc3 : Try.prog.cellsOf 28 = 3 := by kernel_rfl
  rw [hc3] at hl
  have g0 := hg 0 f0 rfl
  have g1 := hg 1 f1 rfl
  have g2 := hg 2 f2 rfl
  rw [t0, o0, show Try.prog.cellsOf 4 = 1 by kernel_rfl] at g0
  rw [t1, o1, show Try.prog.cellsOf 26 = 1 by kernel_rfl] at g1
  rw [t2, o2, show Try.prog.cellsOf 9 = 1 by kernel_rfl] at g2
  match cs, hl, xs, hlen with
  | [c0, c1, c2], _, [y0, y1, y2], _ =>
    simp only [List.drop_zero, List.drop_succ_cons, List.take_succ_cons, List.take_zero, List.getElem?_cons_zero, List.getElem?_cons_succ] at g0 g1 g2
    obtain ⟨b, hb1, hb2⟩ := DataW.trod_bool Try.underlying4 g0
    obtain ⟨m, hm1, hm2, hm3⟩ := DataW.trod_int Try.underlying26 g1
    obtain ⟨s, hs1, hs2, hs3⟩ := DataW.trod_string Try.underlying9 g2
    have hw := bounds_u64 hm3
    obtain ⟨k, rfl⟩ : ∃ k : Nat, m = (k : Int) := ⟨m.toNat, by omega⟩
    refine ⟨⟨b, k, s⟩, ?_, ?_, by show k < _; omega, hs3⟩
    · simp only [List.cons.injEq, and_true] at hb1 hm1 hs1
      rw [hb1, hm1, hs1]; rfl
    · rw [hx, hb2, hm2, hs2]; rfl
theorem bulk_item (x : It) : x.long ≤ 2 * Rows.uptoBulk (itD (H := H) x) := by
  unfold It.long itD
  simp only [Rows.uptoBulk, Rows.uptoBulkAll, size_list]
  split <;> omega
theorem bulk_items (l : List It) : laidLen l ≤ 2 * Rows.uptoBulkAll (l.map (itD (H := H))) ∧ l.length ≤ Rows.uptoBulkAll (l.map (itD (H := H))) := by
  induction l with
  | nil => simp [laidLen, Rows.uptoBulkAll]
  | cons x l ih =>
    have h := bulk_item (H := H) x
    have h1 : 1 ≤ Rows.uptoBulk (itD (H := H) x) := by unfold itD; simp only [Rows.uptoBulk]; omega
    simp only [laidLen, List.map_cons, List.sum_cons, List.length_cons, Rows.uptoBulkAll] at ih ⊢
    omega
/-- A slice of items as an argument. -/
theorem open_items {enc : TypeId × Value → H} {W : World} {base : Nat} {v : Value} {d : DataW H} {ps : List MemPlace} (hval : Value.okWide Try.prog W .any base 22 v)
    (h : DataW.Trod enc Try.prog W 0 (fun _ => true) true 22 v d ps) :
    ∃ (a : Option Addr) (n c : Nat) (l : List It), v = .slice a n c ∧ Items W a n l ∧ (∀ x ∈ l, x.n < 18446744073709551616 ∧ x.s.size ≤ 9223372036854775807) ∧ n ≤ 9223372036854775807 ∧ laidLen l ≤ 2 * Rows.uptoBulk d ∧ n ≤ Rows.uptoBulk d := by
  obtain ⟨a0, len, cap, rfl⟩ := okWide_slice Try.underlying22 hval
  obtain ⟨fuel, hf⟩ := h
  rcases Go.Deep.open_slice Try.underlying22 hf with ⟨hcs, hx⟩ | ⟨a, len', cap', m, nf, D, Pl, hcs, _, hl, hm, hmm, hx, hi⟩
  · simp [Value.cells] at hcs
    obtain ⟨rfl, rfl, rfl⟩ := hcs
    exact ⟨none, 0, 0, [], rfl, ⟨rfl, fun h => by omega⟩, (fun x hx => by cases hx), by omega, by simp [laidLen], Nat.zero_le _⟩
  · simp [Value.cells] at hcs
    obtain ⟨rfl, rfl, rfl⟩ := hcs
    simp only [if_true] at hmm
    subst hmm
    have hc3 : Try.prog.cellsOf 28 = 3 := by kernel_rfl
    rw [hc3] at hi
    have each : ∀ i, ∃ x : It, i < m → W.cells? 0 (a.add (i * 3)) 3 = some (itVs x) ∧ D i = itD x ∧ x.n < 18446744073709551616 ∧ x.s.size ≤ maxLen := by
      intro i
      by_cases him : i < m
      · obtain ⟨cs', hc, ht⟩ := hi i him
        obtain ⟨x, rfl, h2, h3, h4⟩ := open_item ht
        exact ⟨x, fun _ => ⟨hc, h2, h3, h4⟩⟩
      · exact ⟨It.none_, fun h => absurd h him⟩
    obtain ⟨X, hX⟩ := Classical.axiomOfChoice each
    have hlen : ((List.range len).map X).length = len := by simp
    have hget : ∀ j, j < len → ((List.range len).map X).getD j It.none_ = X j := by
      intro j hj
      rw [List.getD_eq_getElem?_getD, List.getElem?_eq_getElem (by rw [hlen]; exact hj)]; simp
    have hdat : (List.range len).map D = ((List.range len).map X).map (itD (H := H)) := by
      rw [List.map_map]
      exact List.map_congr_left (fun r hr => (hX r (by have := List.mem_range.1 hr; omega)).2.1)
    have hb := bulk_items (H := H) ((List.range len).map X)
    rw [← hdat, hlen] at hb
    have hd : d = .slice ((List.range len).map D) ((List.range (m - len)).map fun j => D (len + j)) := congrArg Prod.fst hx
    refine ⟨some a, len, m, (List.range len).map X, rfl, ⟨hlen, fun hp => ?_⟩, fun x hx' => ?_, by unfold maxLen at hm; omega, ?_, ?_⟩
    · have hc0 := (World.cells?_some (hX 0 (by omega)).1).2.2 0 (by omega)
      obtain ⟨b, off, spot⟩ := a
      have hspot : spot = none := by simpa [Addr.add] using World.cell?_spot (hc0.trans (show (itVs (X 0))[0]? = some _ from rfl))
      subst hspot
      refine ⟨b, off, rfl, fun j hj k hk => ?_⟩
      have hc := (World.cells?_some (hX j (by omega)).1).2.2 k hk
      rw [Go.WideShapes.add_plain, Go.WideShapes.add_plain] at hc
      rw [hc, hget j hj]
      match k, hk with
      | 0, _ => rfl
      | 1, _ => rfl
      | 2, _ => rfl
    · obtain ⟨r, hr, rfl⟩ := List.mem_map.1 hx'
      obtain ⟨_, _, h3, h4⟩ := hX r (by have := List.mem_range.1 hr; omega)
      exact ⟨h3, by unfold maxLen at h4; omega⟩
    · rw [hd]; simp only [Rows.uptoBulk]; omega
    · rw [hd]; simp only [Rows.uptoBulk]; omega
end
end Go.Proofs.Ytecamidkcdaopaa.Sp
