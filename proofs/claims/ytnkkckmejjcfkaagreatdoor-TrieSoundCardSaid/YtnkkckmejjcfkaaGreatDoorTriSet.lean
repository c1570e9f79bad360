/- Tries and texts while another block's cell is stored into. -/
import Derived.Test.YtnkkckmejjcfkaaGreatDoorGzK
import Derived.Test.YtnkkckmejjcfkaaGreatDoorGzI
namespace Go.Proofs.YtnkkckmejjcfkaaGreatDoor.Sp
open Go Go.RowKit

theorem size_setCell_ (w : World) (b i : Nat) (u : Value) : (w.setCell ⟨b, i, none⟩ u).heap.size = w.heap.size := by
  show (w.heap.modify b _).size = _
  rw [Array.size_modify]
theorem One.set {Tg : World → (Nat → Prop) → Nat → List Ent → Prop} (R : TriR Tg) {w0 w : World} {F : Nat → Prop} {g : Nat} {l : List Ent} (s : One Tg w0 w F g l) {b : Nat} (i : Nat) (u : Value) (hn : ¬ F b) (hb : w0.heap.size ≤ b) : One Tg w0 (w.setCell ⟨b, i, none⟩ u) F g l where
  t := R.keep s.t (fun k hk => Below.heap_setCell w ⟨b, i, none⟩ u k (fun e => hn (by rw [show b = k from e.symm]; exact hk))) (by rw [size_setCell_]; exact Nat.le_refl _)
  below := s.below.setCell (p := ⟨b, i, none⟩) hb u
  bf := s.bf
theorem StrsOff.set {w : World} {F : Nat → Prop} {a : Option Addr} {n : Nat} {ss : List ByteArray} (h : StrsOff w F a n ss) {b : Nat} (i : Nat) (u : Value) (hne : ∀ p, a = some p → p.block ≠ b) : StrsOff (w.setCell ⟨b, i, none⟩ u) F a n ss :=
  ⟨⟨h.1.1, fun hn => by
    obtain ⟨c, off, e, hc⟩ := h.1.2 hn
    exact ⟨c, off, e, fun j hj => (World.cell?_of_block (w := w) (w' := w.setCell ⟨b, i, none⟩ u) (a := ⟨c, off + j, none⟩) (Below.heap_setCell w ⟨b, i, none⟩ u c (hne _ e))).trans (hc j hj)⟩⟩, h.2⟩
theorem StrsOff.fresh {w : World} {F H : Nat → Prop} {a : Option Addr} {n : Nat} {ss : List ByteArray} (h : StrsOff w F a n ss) (hH : ∀ k, H k → w.heap.size ≤ k) : StrsOff w (fun k => F k ∨ H k) a n ss :=
  ⟨h.1, fun hn p hp hk => hk.elim (h.2 hn p hp) (fun hk => by
    obtain ⟨b, off, e, hc⟩ := h.1.2 hn
    rw [hp] at e
    injection e with e
    subst e
    have h1 : b < w.heap.size := block_lt_of_cell (hc 0 hn)
    have h2 : w.heap.size ≤ b := hH _ hk
    omega)⟩
theorem StrsOff.left {w : World} {F H : Nat → Prop} {a : Option Addr} {n : Nat} {ss : List ByteArray} (h : StrsOff w (fun k => F k ∨ H k) a n ss) : StrsOff w F a n ss := ⟨h.1, fun hn p hp hk => h.2 hn p hp (.inl hk)⟩
theorem Tq.set_ {w : World} {F : Nat → Prop} {g : Nat} {l : List Ent} (s : Tq w F g l) {b : Nat} (i : Nat) (u : Value) (hn : ¬ F b) : Tq (w.setCell ⟨b, i, none⟩ u) F g l :=
  s.other (G := fun k => k = b) ⟨rfl, rfl, rfl, by rw [size_setCell_]; exact Nat.le_refl _, fun k _ hk => Below.heap_setCell w ⟨b, i, none⟩ u k hk⟩ (fun k hf hk => hn (by rw [← hk]; exact hf))
theorem Two.set {Tg : World → (Nat → Prop) → Nat → List Ent → Prop} (R : TriR Tg) {w0 w : World} {F G : Nat → Prop} {g h : Nat} {l m : List Ent} (s : Two Tg w0 w F G g h l m) {b : Nat} (i : Nat) (u : Value) (hf : ¬ F b) (hg : ¬ G b) (hb : w0.heap.size ≤ b) : Two Tg w0 (w.setCell ⟨b, i, none⟩ u) F G g h l m where
  t := (s.one.set R i u hf hb).t
  u := s.u.set_ i u hg
  apart := s.apart
  below := s.below.setCell (p := ⟨b, i, none⟩) hb u
  bf := s.bf
  bg := s.bg
/-- A row of texts of which one is stored anew. -/
theorem OwnT.put {w : World} {base n c : Nat} {a : Option Addr} {l : List ByteArray} (h : OwnT w base (.slice a n c) l) (hp : 0 < l.length) :
    ∃ g, a = some ⟨g, 0, none⟩ ∧ base ≤ g ∧ g < w.heap.size ∧ ∀ j, j < l.length → ∀ x : ByteArray, w.frozen? ⟨g, j, none⟩ = false ∧ (∃ u, w.cell? ⟨g, j, none⟩ = some u) ∧ OwnT (w.setCell ⟨g, j, none⟩ (.string x)) base (.slice a n c) (l.set j x) := by
  rcases h.2 with ⟨h1, h2⟩ | ⟨g, cap, cur, h1, hb, hg, hc, hm, hs, ht⟩
  · omega
  · injection h1 with e1 e2 e3
    subst e1; subst e2; subst e3
    have K : Blk w g 9 cur := hg
    refine ⟨g, rfl, hb, K.lt, fun j hj x => ⟨K.frozen j, ⟨cur[j]'(by omega), ?_⟩, ?_⟩⟩
    · rw [K.cell, Array.getElem?_eq_getElem]
    · refine ⟨by simp, .inr ⟨g, c, cur.setIfInBounds j (.string x), by rw [List.length_set], hb, K.set_ j _, by rw [List.length_set]; exact hc, hm, by rw [Array.size_setIfInBounds]; exact hs, ?_⟩⟩
      rw [Array.toList_setIfInBounds, List.length_set, List.take_set, ht, List.map_set]
theorem OwnT.turned {w w' : World} {base n c : Nat} {a : Option Addr} {l : List ByteArray} {G : Nat → Prop} (h : OwnT w base (.slice a n c) l) (hu : Turned G w w') (hn : ∀ p, a = some p → ¬ G p.block) : OwnT w' base (.slice a n c) l := by
  refine ⟨h.1, ?_⟩
  rcases h.2 with h1 | ⟨g, cap, cur, h1, hb, hg, hr⟩
  · exact .inl h1
  · injection h1 with e1 e2 e3
    subst e1; subst e2; subst e3
    exact .inr ⟨g, c, cur, rfl, hb, (hu.block g (Array.getElem?_eq_some_iff.1 hg).1 (hn _ rfl)).trans hg, hr⟩
theorem OwnT.strs_at {w : World} {base n c : Nat} {a : Option Addr} {l : List ByteArray} (h : OwnT w base (.slice a n c) l) (hn : l.length = n) : Strs w a n l := by
  obtain ⟨a3, c3, e3, hs3⟩ := h.strs
  injection e3 with e1 e2 e3
  subst e1; subst e2; subst e3
  exact hs3
end Go.Proofs.YtnkkckmejjcfkaaGreatDoor.Sp
