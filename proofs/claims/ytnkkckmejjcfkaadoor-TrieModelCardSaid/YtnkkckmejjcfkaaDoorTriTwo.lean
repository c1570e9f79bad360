/- One act of several; a copy beside a pair of tries. -/
import Derived.Test.YtnkkckmejjcfkaaDoorTriBox
namespace Go.Proofs.YtnkkckmejjcfkaaDoor.Sp
open Go Go.RowKit

theorem acts_one {w : World} {b off n k : Nat} {l : List Act} (h : Acts w (some ⟨b, off, none⟩) n l) (hk : k < n) : Acts w (some ⟨b, off + k * 3, none⟩) 1 [l.getD k Act.none_] := by
  refine ⟨rfl, fun _ => ⟨b, off + k * 3, rfl, fun j hj => ?_⟩⟩
  obtain rfl : j = 0 := by omega
  obtain ⟨b1, off1, e, hc⟩ := h.2 (by omega)
  injection e with e
  injection e with e1 e2
  subst e1; subst e2
  have h1 := hc k hk
  simp only [Nat.zero_mul, Nat.add_zero]
  exact h1
theorem does_one (l : List Ent) (x : Act) : doesF l [x] = stepF l x := rfl
theorem acts_next (l : List Ent) (acts : List Act) (k : Nat) (h : k < acts.length) : actsF l (acts.take (k + 1)) = stepF (actsF l (acts.take k)) (acts.getD k Act.none_) := by
  rw [take_act acts k h, actsF_snoc]
/-- .. while another one's memory turns. -/
theorem Two.beside {Tg : World → (Nat → Prop) → Nat → List Ent → Prop} (R : TriR Tg) {w0 w w' : World} {F G H : Nat → Prop} {g h : Nat} {l m : List Ent} (s : Two Tg w0 w F G g h l m) (hu : Turned H w w') (hf : ∀ k, F k → ¬ H k) (hg : ∀ k, G k → ¬ H k) (hH : ∀ k, H k → w0.heap.size ≤ k) : Two Tg w0 w' F G g h l m where
  t := R.other s.t hu hf
  u := s.u.other hu hg
  apart := s.apart
  below := hu.below s.below hH s.below.size
  bf := s.bf
  bg := s.bg
theorem Two.fresh0 {Tg : World → (Nat → Prop) → Nat → List Ent → Prop} (R : TriR Tg) {w0 w w1 : World} {F H : Nat → Prop} {g h : Nat} {l : List Ent} (s : One Tg w0 w F g l) (ht : Tq w1 H h []) (hH : ∀ k, H k → w.heap.size ≤ k) (hb : Below w.heap.size w w1) : Two Tg w0 w1 F H g h l [] := Two.fresh R s ht hH hb
end Go.Proofs.YtnkkckmejjcfkaaDoor.Sp
