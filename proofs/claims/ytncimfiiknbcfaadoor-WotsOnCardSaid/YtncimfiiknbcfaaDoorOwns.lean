/- Slices of texts of a call's own; what stays as it was. -/
import Derived.Test.YtncimfiiknbcfaaDoorShaInputP
import Derived.Test.YtncimfiiknbcfaaDoorReads
import Derived.Test.YtncimfiiknbcfaaDoorOwnT
namespace Go.Proofs.YtncimfiiknbcfaaDoor.Sp
open Go Go.RowKit

theorem OwnT.strs {w : World} {base : Nat} {v : Value} {l : List ByteArray} (h : OwnT w base v l) : ∃ a c, v = .slice a l.length c ∧ Strs w a l.length l := by
  rcases h.2 with ⟨h1, h2⟩ | ⟨g, cap, cur, h1, _⟩
  · exact ⟨none, 0, by rw [h1, h2], rfl, fun hp => by omega⟩
  · refine ⟨_, _, h1, rfl, fun hp => ⟨g, 0, rfl, fun j hj => ?_⟩⟩
    have hc := World.ownsRow.cells h (g := g) (by rw [h1]; rfl) j (.string (l.getD j ByteArray.empty)) (by simp [List.getD, hj])
    rw [show (⟨g, 0, none⟩ : Addr).add j = ⟨g, 0 + j, none⟩ from by unfold Addr.add; split <;> simp_all] at hc
    exact hc

theorem Cells.below_ {w w' : World} {a : Option Addr} {n : Nat} {f : Nat → Value} (h : Cells w a n f) (hb : Below w.heap.size w w') : Cells w' a n f := fun hn => by
  obtain ⟨b, off, e, hc⟩ := h hn
  exact ⟨b, off, e, fun j hj => (hb.cell (p := ⟨b, off + j, none⟩) (block_lt_of_cell (hc j hj))).trans (hc j hj)⟩
/-- As OwnT.strs, and where its block lies. -/
theorem OwnT.strs_ {w : World} {base : Nat} {v : Value} {l : List ByteArray} (h : OwnT w base v l) : ∃ a c, v = .slice a l.length c ∧ Strs w a l.length l ∧ (∀ p, a = some p → base ≤ p.block ∧ p.block < w.heap.size) ∧ l.length ≤ c := by
  obtain ⟨a, c, rfl, hs⟩ := h.strs
  refine ⟨a, c, rfl, hs, fun p hp => ?_, ?_⟩
  · subst hp
    exact World.ownsRow.lt h p.block rfl
  · rcases h.2 with ⟨h1, h2⟩ | ⟨g, cap, cur, h1, _, _, hc, _⟩
    · omega
    · injection h1 with _ _ h3
      omega
theorem Strs.grown_ {w w' : World} {a : Option Addr} {n : Nat} {ss : List ByteArray} {row : Option Nat} (h : Strs w a n ss) (hg : w.grownBy w' row) (hne : ∀ p, a = some p → some p.block ≠ row) : Strs w' a n ss := by
  refine ⟨h.1, fun hp => ?_⟩
  obtain ⟨b, off, e, hc⟩ := h.2 hp
  refine ⟨b, off, e, fun j hj => ?_⟩
  exact World.grownBy.cell hg (a := ⟨b, off + j, none⟩) (hc j hj) (hne ⟨b, off, none⟩ e)
theorem Strs.lt_ {w : World} {a : Option Addr} {n : Nat} {ss : List ByteArray} (h : Strs w a n ss) (hp : 0 < n) : ∀ p, a = some p → p.block < w.heap.size := by
  obtain ⟨b, off, e, hc⟩ := h.2 hp
  intro p hq
  rw [e] at hq
  injection hq with hq
  subst hq
  exact block_lt_of_cell (hc 0 hp)
/-- A row of a call's own, and a list that lies elsewhere. -/
def Apart (v : Value) (a : Option Addr) : Prop := ∀ g p, v.ownBlock = some g → a = some p → p.block ≠ g
end Go.Proofs.YtncimfiiknbcfaaDoor.Sp
