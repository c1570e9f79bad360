/- Two pairs of tries, each of one of the program's and one of the document's, that lie apart. -/
import Derived.Test.YtnkkckmejjcfkaaGreatDoorGzZ
import Derived.Test.YtnkkckmejjcfkaaGreatDoorTriDuo
namespace Go.Proofs.YtnkkckmejjcfkaaGreatDoor.Sp
open Go Go.RowKit

structure Quad (Tg : World → (Nat → Prop) → Nat → List Ent → Prop) (w0 w : World) (F H G K : Nat → Prop) (a x b y : Nat) (l m : List Ent) : Prop where
  p : Two Tg w0 w F H a x l l
  q : Two Tg w0 w G K b y m m
  d : ∀ k, (F k ∨ H k) → ¬ (G k ∨ K k)
theorem Quad.flip {Tg : World → (Nat → Prop) → Nat → List Ent → Prop} {w0 w : World} {F H G K : Nat → Prop} {a x b y : Nat} {l m : List Ent} (s : Quad Tg w0 w F H G K a x b y l m) : Quad Tg w0 w G K F H b y a x m l :=
  ⟨s.q, s.p, fun k h1 h2 => s.d k h2 h1⟩
theorem Quad.first {Tg : World → (Nat → Prop) → Nat → List Ent → Prop} (R : TriR Tg) {w0 w w' : World} {F H G K F' H' : Nat → Prop} {a x b y : Nat} {l m l' : List Ent} (s : Quad Tg w0 w F H G K a x b y l m) (p' : Two Tg w0 w' F' H' a x l' l') (hu : Turned (fun k => F k ∨ H k) w w') (hF : Within F F' w) (hH : Within H H' w) : Quad Tg w0 w' F' H' G K a x b y l' m where
  p := p'
  q := s.q.beside R hu (fun k hg hf => s.d k hf (.inl hg)) (fun k hk hf => s.d k hf (.inr hk)) (fun k hf => hf.elim (s.p.bf k) (s.p.bg k))
  d := fun k hf hg => by
    have hlt : k < w.heap.size := hg.elim (R.lt s.q.t k) (s.q.u.lt k)
    rcases hf with hf | hf
    · exact (hF k hf).elim (fun h1 => s.d k (.inl h1) hg) (fun h1 => by omega)
    · exact (hH k hf).elim (fun h1 => s.d k (.inr h1) hg) (fun h1 => by omega)
theorem Quad.second {Tg : World → (Nat → Prop) → Nat → List Ent → Prop} (R : TriR Tg) {w0 w w' : World} {F H G K G' K' : Nat → Prop} {a x b y : Nat} {l m m' : List Ent} (s : Quad Tg w0 w F H G K a x b y l m) (q' : Two Tg w0 w' G' K' b y m' m') (hu : Turned (fun k => G k ∨ K k) w w') (hG : Within G G' w) (hK : Within K K' w) : Quad Tg w0 w' F H G' K' a x b y l m' :=
  (s.flip.first R q' hu hG hK).flip
/-- A call of the program's on the first one, or the second one. -/
theorem Quad.one {Tg : World → (Nat → Prop) → Nat → List Ent → Prop} (R : TriR Tg) {w0 w w' : World} {F H G K F' : Nat → Prop} {a x b y : Nat} {l m : List Ent} (s : Quad Tg w0 w F H G K a x b y l m) (ht : Tg w' F' a l) (hu : Turned F w w') (hw : Within F F' w) : Quad Tg w0 w' F' H G K a x b y l m :=
  s.first R (s.p.first ht hu hw) hu.orl hw (Within.refl H w)
theorem Quad.two {Tg : World → (Nat → Prop) → Nat → List Ent → Prop} (R : TriR Tg) {w0 w w' : World} {F H G K G' : Nat → Prop} {a x b y : Nat} {l m : List Ent} (s : Quad Tg w0 w F H G K a x b y l m) (ht : Tg w' G' b m) (hu : Turned G w w') (hw : Within G G' w) : Quad Tg w0 w' F H G' K a x b y l m :=
  (s.flip.one R ht hu hw).flip
theorem Quad.keep {Tg : World → (Nat → Prop) → Nat → List Ent → Prop} (R : TriR Tg) {w0 w w' : World} {F H G K : Nat → Prop} {a x b y : Nat} {l m : List Ent} (s : Quad Tg w0 w F H G K a x b y l m) (hb : Below w.heap.size w w') : Quad Tg w0 w' F H G K a x b y l m :=
  ⟨s.p.keep R hb, s.q.keep R hb, s.d⟩
/-- Two new ones of the document's beside two new ones of the program's. -/
theorem Quad.make {Tg : World → (Nat → Prop) → Nat → List Ent → Prop} (R : TriR Tg) {w0 w w1 w2 : World} {F H G K : Nat → Prop} {a x b y : Nat} (s : Duo Tg w0 w F G a b [] []) (ht : Tq w1 H x []) (hH : ∀ k, H k → w.heap.size ≤ k) (hb : Below w.heap.size w w1) (ht2 : Tq w2 K y []) (hK : ∀ k, K k → w1.heap.size ≤ k) (hb2 : Below w1.heap.size w1 w2) : Quad Tg w0 w2 F H G K a x b y [] [] :=
  have s1 := s.keep R hb
  have p1 := Two.fresh R s.s ht hH hb
  have q2 := Two.fresh R s1.c ht2 hK hb2
  ⟨p1.keep R hb2, q2, fun k hf hg => by
    rcases hf with hf | hf <;> rcases hg with hg | hg
    · exact s.d k hf hg
    · have := R.lt s1.s.t k hf; have := hK k hg; omega
    · have := R.lt s.c.t k hg; have := hH k hf; omega
    · have := ht.lt k hf; have := hK k hg; omega⟩
end Go.Proofs.YtnkkckmejjcfkaaGreatDoor.Sp
