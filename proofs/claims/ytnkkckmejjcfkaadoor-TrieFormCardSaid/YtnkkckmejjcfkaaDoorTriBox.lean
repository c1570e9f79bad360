/- Texts and blocks that stand apart from a trie's memory, while it turns. -/
import Derived.Test.YtnkkckmejjcfkaaDoorTriOne
namespace Go.Proofs.YtnkkckmejjcfkaaDoor.Sp
open Go Go.RowKit

def StrsOff (w : World) (F : Nat → Prop) (a : Option Addr) (n : Nat) (ss : List ByteArray) : Prop := Strs w a n ss ∧ (0 < n → ∀ p, a = some p → ¬ F p.block)
theorem StrsOff.turn {w w' : World} {F F' : Nat → Prop} {a : Option Addr} {n : Nat} {ss : List ByteArray} (h : StrsOff w F a n ss) (hu : Turned F w w') (hw : Within F F' w) : StrsOff w' F' a n ss := by
  refine ⟨⟨h.1.1, fun hn => ?_⟩, fun hn p hp => ?_⟩
  · obtain ⟨b, off, rfl, hc⟩ := h.1.2 hn
    refine ⟨b, off, rfl, fun j hj => ?_⟩
    have h1 := hu.block b (block_lt_of_cell (hc 0 hn)) (h.2 hn _ rfl)
    have h2 := hc j hj
    unfold World.cell? at h2 ⊢
    simp only [h1]
    exact h2
  · obtain ⟨b, off, rfl, hc⟩ := h.1.2 hn
    injection hp with hp
    subst hp
    exact off_within (block_lt_of_cell (hc 0 hn)) (h.2 hn _ rfl) hw
theorem StrsOff.below {w w' : World} {F : Nat → Prop} {a : Option Addr} {n : Nat} {ss : List ByteArray} (h : StrsOff w F a n ss) (hb : Below w.heap.size w w') : StrsOff w' F a n ss := ⟨h.1.below hb, h.2⟩
theorem StrsOff.other {w w' : World} {F G : Nat → Prop} {a : Option Addr} {n : Nat} {ss : List ByteArray} (h : StrsOff w F a n ss) (hu : Turned G w w') (hg : ∀ k, k < w.heap.size → ¬ F k → ¬ G k) : StrsOff w' F a n ss := by
  refine ⟨⟨h.1.1, fun hn => ?_⟩, h.2⟩
  obtain ⟨b, off, rfl, hc⟩ := h.1.2 hn
  refine ⟨b, off, rfl, fun j hj => ?_⟩
  have h0 := block_lt_of_cell (hc 0 hn)
  have h1 := hu.block b h0 (hg _ h0 (h.2 hn _ rfl))
  have h2 := hc j hj
  unfold World.cell? at h2 ⊢
  simp only [h1]
  exact h2
end Go.Proofs.YtnkkckmejjcfkaaDoor.Sp
