/- What a call may change: the blocks of a foot, and new ones. -/
import Derived.Test.YtnbaoihamjdjdaaGreatDoorMem
namespace Go.Proofs.YtnbaoihamjdjdaaGreatDoor.Sp
open Go Go.RowKit
set_option maxRecDepth 100000

/-- Of what there was nothing but the blocks of F may have changed. -/
structure Turned (F : Nat → Prop) (w w' : World) : Prop where
  os : w'.os = w.os
  tape : w'.tape = w.tape
  output : w'.output = w.output
  size : w.heap.size ≤ w'.heap.size
  block : ∀ k, k < w.heap.size → ¬ F k → w'.heap[k]? = w.heap[k]?
/-- New memory beside F alone. -/
def Within (F F' : Nat → Prop) (w : World) : Prop := ∀ k, F' k → F k ∨ w.heap.size ≤ k
theorem Turned.below {F : Nat → Prop} {B : Nat} {w0 w w' : World} (h : Turned F w w') (hb : Below B w0 w) (hF : ∀ k, F k → B ≤ k) (hB : B ≤ w.heap.size) : Below B w0 w' :=
  ⟨h.os.trans hb.os, h.tape.trans hb.tape, h.output.trans hb.output, Nat.le_trans hb.size h.size, fun k hk => (h.block k (by omega) (fun hf => by have := hF k hf; omega)).trans (hb.block k hk)⟩
theorem Turned.of_below {F : Nat → Prop} {w w' : World} (h : Below w.heap.size w w') : Turned F w w' := ⟨h.os, h.tape, h.output, h.size, fun k hk _ => h.block k hk⟩
theorem Within.from {F F' : Nat → Prop} {B : Nat} {w : World} (h : Within F F' w) (hF : ∀ k, F k → B ≤ k) (hB : B ≤ w.heap.size) : ∀ k, F' k → B ≤ k := fun k hk => by
  rcases h k hk with h1 | h1
  · exact hF k h1
  · omega
theorem Turned.refl (F : Nat → Prop) (w : World) : Turned F w w := ⟨rfl, rfl, rfl, Nat.le_refl _, fun _ _ _ => rfl⟩
theorem Within.refl (F : Nat → Prop) (w : World) : Within F F w := fun _ h => .inl h
theorem Turned.trans {F F' : Nat → Prop} {a b c : World} (h : Turned F a b) (hw : Within F F' a) (k : Turned F' b c) : Turned F a c :=
  ⟨k.os.trans h.os, k.tape.trans h.tape, k.output.trans h.output, Nat.le_trans h.size k.size, fun j hj hF => (k.block j (Nat.lt_of_lt_of_le hj h.size) (fun hF' => (hw j hF').elim hF (fun h1 => by omega))).trans (h.block j hj hF)⟩
theorem Within.trans {F F' F'' : Nat → Prop} {a b : World} (h : Within F F' a) (hs : a.heap.size ≤ b.heap.size) (k : Within F' F'' b) : Within F F'' a := fun j hj => (k j hj).elim (h j) (fun h1 => .inr (Nat.le_trans hs h1))
/-- An append onto a row of the foot, and a store into a block of it. -/
theorem Turned.grown_set {F : Nat → Prop} {w w1 : World} {o : Obj} {row : Option Nat} {g i : Nat} {u : Value} (hg : (w.alloc o).grownBy w1 row) (hrow : ∀ k, row = some k → F k) (hF : F g) : Turned F w (w1.setCell ⟨g, i, none⟩ u) := by
  refine ⟨hg.os, hg.tape, hg.output, ?_, fun k hk hnF => ?_⟩
  · have := hg.size
    simp at this
    show w.heap.size ≤ (w1.heap.modify g _).size
    rw [Array.size_modify]
    omega
  · have h1 : k ≠ g := fun e => hnF (by rw [e]; exact hF)
    rw [Below.heap_setCell w1 ⟨g, i, none⟩ u k h1, hg.block k (by simp; omega) (fun e => hnF (hrow k e.symm)), Below.heap_alloc w o k hk]
theorem Turned.grown_set_ {F : Nat → Prop} {w w1 : World} {row : Option Nat} {g i : Nat} {u : Value} (hg : w.grownBy w1 row) (hrow : ∀ k, row = some k → F k) (hF : F g) : Turned F w (w1.setCell ⟨g, i, none⟩ u) := by
  refine ⟨hg.os, hg.tape, hg.output, ?_, fun k hk hnF => ?_⟩
  · have := hg.size
    show w.heap.size ≤ (w1.heap.modify g _).size
    rw [Array.size_modify]
    omega
  · have h1 : k ≠ g := fun e => hnF (by rw [e]; exact hF)
    rw [Below.heap_setCell w1 ⟨g, i, none⟩ u k h1, hg.block k hk (fun e => hnF (hrow k e.symm))]
end Go.Proofs.YtnbaoihamjdjdaaGreatDoor.Sp
