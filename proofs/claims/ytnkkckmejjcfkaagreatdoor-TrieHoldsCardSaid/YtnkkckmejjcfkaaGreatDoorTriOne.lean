/- Tries of the program's, one or two of them, as the statements hold them; acts beside a new one of the document's. -/
import Derived.Test.YtnkkckmejjcfkaaGreatDoorGzI
import Derived.Test.YtnkkckmejjcfkaaGreatDoorTriDoes
namespace Go.Proofs.YtnkkckmejjcfkaaGreatDoor.Sp
open Go Go.RowKit

/-- What another one's turn leaves. -/
theorem One.other {Tg : World → (Nat → Prop) → Nat → List Ent → Prop} (R : TriR Tg) {w0 w w' : World} {F G : Nat → Prop} {g : Nat} {l : List Ent} (s : One Tg w0 w F g l) (hu : Turned G w w') (hd : ∀ k, F k → ¬ G k) (hg : ∀ k, G k → w0.heap.size ≤ k) : One Tg w0 w' F g l where
  t := R.other s.t hu hd
  below := hu.below s.below hg s.below.size
  bf := s.bf
theorem One.apart {Tg : World → (Nat → Prop) → Nat → List Ent → Prop} (R : TriR Tg) {w0 w : World} {F G G' : Nat → Prop} {g : Nat} {l : List Ent} (s : One Tg w0 w F g l) (hd : ∀ k, F k → ¬ G k) (hw : Within G G' w) : ∀ k, F k → ¬ G' k := fun k hf hk =>
  (hw k hk).elim (hd k hf) (fun h1 => by have := R.lt s.t k hf; omega)
theorem One.apart' {Tg : World → (Nat → Prop) → Nat → List Ent → Prop} (R : TriR Tg) {w0 w : World} {F F' G : Nat → Prop} {h : Nat} {m : List Ent} (c : One Tg w0 w G h m) (hd : ∀ k, F k → ¬ G k) (hw : Within F F' w) : ∀ k, F' k → ¬ G k := fun k hf hk =>
  (hw k hf).elim (fun h1 => hd k h1 hk) (fun h1 => by have := R.lt c.t k hk; omega)
/-- A trie of the document's that is new beside it. -/
theorem Two.fresh {Tg : World → (Nat → Prop) → Nat → List Ent → Prop} (R : TriR Tg) {w0 w w1 : World} {F H : Nat → Prop} {g h : Nat} {l : List Ent} (s : One Tg w0 w F g l) (ht : Tq w1 H h []) (hH : ∀ k, H k → w.heap.size ≤ k) (hb : Below w.heap.size w w1) : Two Tg w0 w1 F H g h l [] where
  t := R.below s.t hb
  u := ht
  apart := fun k hf hk => by have := R.lt s.t k hf; have := hH k hk; omega
  below := s.below.trans (hb.mono s.below.size)
  bf := s.bf
  bg := fun k hk => Nat.le_trans s.below.size (hH k hk)
theorem Two.one {Tg : World → (Nat → Prop) → Nat → List Ent → Prop} {w0 w : World} {F G : Nat → Prop} {g h : Nat} {l m : List Ent} (s : Two Tg w0 w F G g h l m) : One Tg w0 w F g l := ⟨s.t, s.below, s.bf⟩
theorem One.fit {Tg : World → (Nat → Prop) → Nat → List Ent → Prop} (R : TriR Tg) {w0 w : World} {F : Nat → Prop} {g : Nat} {l : List Ent} (s : One Tg w0 w F g l) : FitT l := (R.fit s.t).1
end Go.Proofs.YtnkkckmejjcfkaaGreatDoor.Sp
