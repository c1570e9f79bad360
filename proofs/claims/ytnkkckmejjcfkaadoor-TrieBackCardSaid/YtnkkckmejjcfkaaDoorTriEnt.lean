/- Slices of the document's own entries. -/
import Derived.Test.YtnkkckmejjcfkaaDoorTriPure
import Derived.Test.YtnkkckmejjcfkaaDoorGdR
namespace Go.Proofs.YtnkkckmejjcfkaaDoor.Sp
open Go Go.RowKit

def entV (l : List Ent) : List Value := l.flatMap fun e => [.string e.1, .string e.2]
theorem entV_nil : entV [] = [] := rfl
theorem entV_append (a b : List Ent) : entV (a ++ b) = entV a ++ entV b := List.flatMap_append
theorem entV_one (e : Ent) : entV [e] = [.string e.1, .string e.2] := rfl
theorem entV_length (l : List Ent) : (entV l).length = 2 * l.length := by
  induction l with
  | nil => rfl
  | cons e l ih => rw [show entV (e :: l) = [.string e.1, .string e.2] ++ entV l from rfl, List.length_append, ih, List.length_cons]; simp; omega
theorem entV_at : ∀ (l : List Ent) (j : Nat) (e : Ent), l[j]? = some e → (entV l)[2 * j]? = some (.string e.1) ∧ (entV l)[2 * j + 1]? = some (.string e.2)
  | [], j, e, h => by simp at h
  | x :: l, 0, e, h => by
    simp at h
    subst h
    exact ⟨rfl, rfl⟩
  | x :: l, j + 1, e, h => by
    have h' : l[j]? = some e := by simpa using h
    obtain ⟨h1, h2⟩ := entV_at l j e h'
    have e0 : entV (x :: l) = .string x.1 :: .string x.2 :: entV l := rfl
    rw [e0, show 2 * (j + 1) = 2 * j + 1 + 1 by omega]
    exact ⟨h1, h2⟩
/-- Entries in memory. -/
def Ents (w : World) (a : Option Addr) (n : Nat) (l : List Ent) : Prop :=
  l.length = n ∧ (0 < n → ∃ b off, a = some ⟨b, off, none⟩ ∧ ∀ (j : Nat) (e : Ent), l[j]? = some e → w.cell? ⟨b, off + j * 2, none⟩ = some (.string e.1) ∧ w.cell? ⟨b, off + j * 2 + 1, none⟩ = some (.string e.2))
theorem Ents.same {w w' : World} {a : Option Addr} {n : Nat} {l : List Ent} (h : Ents w a n l) (hb : ∀ p, a = some p → w'.heap[p.block]? = w.heap[p.block]?) : Ents w' a n l := by
  refine ⟨h.1, fun hn => ?_⟩
  obtain ⟨b, off, e, hc⟩ := h.2 hn
  have hcell : ∀ i, w'.cell? ⟨b, i, none⟩ = w.cell? ⟨b, i, none⟩ := fun i => World.cell?_of_block (w := w) (w' := w') (a := ⟨b, i, none⟩) (hb ⟨b, off, none⟩ e)
  exact ⟨b, off, e, fun j x hj => ⟨(hcell _).trans (hc j x hj).1, (hcell _).trans (hc j x hj).2⟩⟩
theorem Ents.below {w w' : World} {a : Option Addr} {n : Nat} {l : List Ent} (h : Ents w a n l) (hb : Below w.heap.size w w') : Ents w' a n l := by
  rcases Nat.eq_zero_or_pos n with h0 | h0
  · exact ⟨h.1, fun hp => by omega⟩
  · obtain ⟨b, off, e, hc⟩ := h.2 h0
    refine h.same fun p hp => hb.block _ ?_
    rw [e] at hp; injection hp with hp; subst hp
    obtain ⟨x, hx⟩ : ∃ x, l[0]? = some x := ⟨_, List.getElem?_eq_getElem (by rw [h.1]; exact h0)⟩
    exact block_lt_of_cell (hc 0 x hx).1
/-- Entries of a call's own. -/
def OwnE (w : World) (base : Nat) (v : Value) (l : List Ent) : Prop := w.ownsRow base 101 2 v l.length (entV l)
theorem infoEnt : (Tryd.prog.info? 101).map (fun i => (i.zero, i.size, i.bytes)) = some (some (.agg #[.string .empty, .string .empty]), 2, 32) := by kernel_rfl
theorem OwnE.ents {w : World} {base : Nat} {v : Value} {l : List Ent} (h : OwnE w base v l) : ∃ a c, v = .slice a l.length c ∧ Ents w a l.length l ∧ (∀ p, a = some p → base ≤ p.block ∧ p.block < w.heap.size) ∧ l.length ≤ c := by
  rcases h.2 with ⟨h1, h2⟩ | ⟨g, cap, cur, h1, _, _, hc, _⟩
  · exact ⟨none, 0, by rw [h1, h2], ⟨rfl, fun hp => by omega⟩, (fun p hp => by cases hp), by omega⟩
  · refine ⟨_, _, h1, ⟨rfl, fun hp => ⟨g, 0, rfl, fun j e hj => ?_⟩⟩, fun p hp => ?_, hc⟩
    · have hat : ∀ i u, (entV l)[i]? = some u → w.cell? ⟨g, 0 + i, none⟩ = some u := fun i u hu => by
        have hcl := World.ownsRow.cells h (g := g) (by rw [h1]; rfl) i u hu
        rwa [show (⟨g, 0, none⟩ : Addr).add i = ⟨g, 0 + i, none⟩ from by unfold Addr.add; split <;> simp_all] at hcl
      obtain ⟨h2, h3⟩ := entV_at l j e hj
      rw [Nat.mul_comm] at h2 h3
      have h4 := hat _ _ h3
      rw [← Nat.add_assoc] at h4
      exact ⟨hat _ _ h2, h4⟩
    · injection hp with hp; subst hp
      exact World.ownsRow.lt h g (by rw [h1]; rfl)
/-- What hands back entries in memory of its own. -/
def EntsTo (l : List Ent) (w : World) (e : Ending) (w' : World) : Prop :=
  ∃ (a : Option Addr) (c : Nat), e = .returned (.slice a l.length c) ∧ Ents w' a l.length l ∧ Below w.heap.size w w' ∧ (∀ p, a = some p → w.heap.size ≤ p.block ∧ p.block < w'.heap.size) ∧ l.length ≤ c
theorem filt_snoc (b d : Nat) (l : List Ent) (e : Ent) : filt b d (l ++ [e]) = filt b d l ++ (if bitN e.1 d = b then [e] else []) := by
  unfold filt
  rw [List.filter_append]
  congr 1
  by_cases h : bitN e.1 d = b <;> simp [h]
theorem filt_len (b d : Nat) (l : List Ent) : (filt b d l).length ≤ l.length := List.length_filter_le _ _
end Go.Proofs.YtnkkckmejjcfkaaDoor.Sp
