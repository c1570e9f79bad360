/- Two tries of the program's that lie apart. -/
import Derived.Test.YtnkkckmejjcfkaaGreatDoorTriOne
import Derived.Test.YtnkkckmejjcfkaaGreatDoorGzZ
namespace Go.Proofs.YtnkkckmejjcfkaaGreatDoor.Sp
open Go Go.RowKit

structure Duo (Tg : World → (Nat → Prop) → Nat → List Ent → Prop) (w0 w : World) (F G : Nat → Prop) (g h : Nat) (l m : List Ent) : Prop where
  s : One Tg w0 w F g l
  c : One Tg w0 w G h m
  d : ∀ k, F k → ¬ G k
theorem Duo.flip {Tg : World → (Nat → Prop) → Nat → List Ent → Prop} {w0 w : World} {F G : Nat → Prop} {g h : Nat} {l m : List Ent} (s : Duo Tg w0 w F G g h l m) : Duo Tg w0 w G F h g m l :=
  ⟨s.c, s.s, fun k hg hf => s.d k hf hg⟩
theorem Duo.first {Tg : World → (Nat → Prop) → Nat → List Ent → Prop} (R : TriR Tg) {w0 w w' : World} {F G F' : Nat → Prop} {g h : Nat} {l m l' : List Ent} (s : Duo Tg w0 w F G g h l m) (ht : Tg w' F' g l') (hu : Turned F w w') (hw : Within F F' w) : Duo Tg w0 w' F' G g h l' m :=
  ⟨s.s.turn ht hu hw, s.c.other R hu (fun k hc hf => s.d k hf hc) s.s.bf, s.c.apart' R s.d hw⟩
theorem Duo.second {Tg : World → (Nat → Prop) → Nat → List Ent → Prop} (R : TriR Tg) {w0 w w' : World} {F G G' : Nat → Prop} {g h : Nat} {l m m' : List Ent} (s : Duo Tg w0 w F G g h l m) (ht : Tg w' G' h m') (hu : Turned G w w') (hw : Within G G' w) : Duo Tg w0 w' F G' g h l m' :=
  (s.flip.first R ht hu hw).flip
theorem Duo.keep {Tg : World → (Nat → Prop) → Nat → List Ent → Prop} (R : TriR Tg) {w0 w w' : World} {F G : Nat → Prop} {g h : Nat} {l m : List Ent} (s : Duo Tg w0 w F G g h l m) (hb : Below w.heap.size w w') : Duo Tg w0 w' F G g h l m :=
  ⟨s.s.keep R hb, s.c.keep R hb, s.d⟩
/-- A new one beside it. -/
theorem One.duo {Tg : World → (Nat → Prop) → Nat → List Ent → Prop} (R : TriR Tg) {w0 w w' : World} {F G : Nat → Prop} {g h : Nat} {l m : List Ent} (s : One Tg w0 w F g l) (ht : Tg w' G h m) (hG : ∀ k, G k → w.heap.size ≤ k) (hb : Below w.heap.size w w') : Duo Tg w0 w' F G g h l m :=
  ⟨s.keep R hb, ⟨ht, s.below.trans (hb.mono s.below.size), fun k hk => Nat.le_trans s.below.size (hG k hk)⟩, fun k hf hg => by have := R.lt s.t k hf; have := hG k hg; omega⟩
/-- A copy beside it. -/
theorem One.copied {Tg : World → (Nat → Prop) → Nat → List Ent → Prop} {w0 w w' : World} {F F' G : Nat → Prop} {g h : Nat} {l : List Ent} (s : One Tg w0 w F g l) (ht : Tg w' F' g l) (hc : Tg w' G h l) (hG : ∀ k, G k → w.heap.size ≤ k ∧ ¬ F' k) (hu : Turned F w w') (hw : Within F F' w) : Duo Tg w0 w' F' G g h l l :=
  have s' := s.turn ht hu hw
  ⟨s', ⟨hc, s'.below, fun k hk => Nat.le_trans s.below.size (hG k hk).1⟩, fun k hf hg => (hG k hg).2 hf⟩
/-- Acts in the first one. -/
theorem Duo.does {Tg : World → (Nat → Prop) → Nat → List Ent → Prop} (R : TriR Tg) {w0 w w1 w' : World} {F G H F' H' : Nat → Prop} {g h z : Nat} {l m l' n n' : List Ent} (s : Duo Tg w0 w F G g h l m) (hb : Below w.heap.size w w1) (hH : ∀ k, H k → w.heap.size ≤ k) (t : Two Tg w0 w1 F H g z l n) (t' : Two Tg w0 w' F' H' g z l' n') (hu : Turned (fun k => F k ∨ H k) w1 w') (hw : Within F F' w1) : Duo Tg w0 w' F' G g h l' m :=
  have s1 := s.keep R hb
  ⟨t'.one, s1.c.other R hu (fun k hc hf => hf.elim (fun h1 => s1.d k h1 hc) (fun h1 => by have := R.lt s.c.t k hc; have := hH k h1; omega)) (fun k hk => hk.elim (t.bf k) (t.bg k)), s1.c.apart' R s1.d hw⟩
end Go.Proofs.YtnkkckmejjcfkaaGreatDoor.Sp
