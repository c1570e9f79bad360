/- Slices of texts of a call's own, and what stays as it was (no layer is named here). -/
import Derived.Test.YtncimfiiknbcfaaDoorMem
import Derived.Deep.AppendLies
namespace Go.Proofs.YtncimfiiknbcfaaDoor.Sp
open Go Go.RowKit

/-- A slice of texts of the call's own. -/
def OwnT (w : World) (base : Nat) (v : Value) (l : List ByteArray) : Prop := w.ownsRow base 9 1 v l.length (l.map Value.string)
theorem infoText : (Tryd.prog.info? 9).map (fun i => (i.zero, i.size, i.bytes)) = some (some (.string .empty), 1, 16) := by kernel_rfl
theorem own_below {w w' : World} {base : Nat} {e : TypeId} {size n : Nat} {v : Value} {xs : List Value} (h : w.ownsRow base e size v n xs) (hb : Below w.heap.size w w') : w'.ownsRow base e size v n xs :=
  h.kept (row := none) ⟨hb.os, hb.tape, hb.output, hb.size, fun i hi _ => hb.block i hi⟩ (by cases v.ownBlock <;> simp)
theorem below_of_drew {w w1 : World} (h : Below w.drew.heap.size w.drew w1) : Below w.heap.size w w1 := (Below.refl _ _).drew.trans h
/-- It has a block of its own, if it has a text. -/
theorem OwnT.slice {w : World} {base : Nat} {v : Value} {l : List ByteArray} (h : OwnT w base v l) (hpos : 0 < l.length) :
    ∃ g c, v = .slice (some ⟨g, 0, none⟩) l.length c ∧ base ≤ g ∧ g < w.heap.size ∧ l.length ≤ c ∧ ∀ (j : Nat) x, l[j]? = some x → w.cell? ⟨g, j, none⟩ = some (.string x) := by
  rcases h.2 with ⟨_, h2⟩ | ⟨g, cap, cur, h1, hb, _, hc, _⟩
  · omega
  · have hg := World.ownsRow.lt h g (by rw [h1]; rfl)
    refine ⟨g, cap, h1, hg.1, hg.2, hc, fun j x hj => ?_⟩
    have hcl := World.ownsRow.cells h (g := g) (by rw [h1]; rfl) j (.string x) (by simp [hj])
    rw [show (⟨g, 0, none⟩ : Addr).add j = ⟨g, 0 + j, none⟩ from by unfold Addr.add; split <;> simp_all, Nat.zero_add] at hcl
    exact hcl
end Go.Proofs.YtncimfiiknbcfaaDoor.Sp
