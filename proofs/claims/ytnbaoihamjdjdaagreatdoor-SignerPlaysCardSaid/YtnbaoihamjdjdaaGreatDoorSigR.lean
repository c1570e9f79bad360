/- What is wanted of package signer's own calls: each answers as the plain signer does, and touches nothing but the signer's own memory. (No statement is named here.) -/
import Derived.Test.YtnbaoihamjdjdaaGreatDoorSigPure
import Derived.Test.YtnbaoihamjdjdaaGreatDoorFoot
import Derived.Test.YtnbaoihamjdjdaaGreatDoorWotA
namespace Go.Proofs.YtnbaoihamjdjdaaGreatDoor.Sp
open Go Go.RowKit
set_option maxRecDepth 100000

/-- How a method that hands back v leaves the signer. -/
def SgTo (Sg : World → (Nat → Prop) → Nat → ByteArray → Nat → Nat → Prop) (w : World) (F : Nat → Prop) (g : Nat) (seed : ByteArray) (h n : Nat) (v : Value) (e : Ending) (w' : World) : Prop :=
  ∃ F', e = .returned v ∧ Sg w' F' g seed h n ∧ Turned F w w' ∧ Within F F' w
/-- The program's calls, by what they answer. -/
structure SigR (Sg : World → (Nat → Prop) → Nat → ByteArray → Nat → Nat → Prop) : Prop where
  lt : ∀ {w F g seed h n}, Sg w F g seed h n → ∀ k, F k → k < w.heap.size
  keep : ∀ {w w' F g seed h n}, Sg w F g seed h n → (∀ k, F k → w'.heap[k]? = w.heap[k]?) → w.heap.size ≤ w'.heap.size → Sg w' F g seed h n
  new_ok : ∀ (seed : ByteArray) (h n : Nat) (w : World), seed.size ≤ 140737488351232 → h ≤ 7 → n ≤ 2 ^ h → Tab w →
    Calls Tryz.prog 6 #[.string seed, .int .i64 (h : Int), .int .i64 (n : Int)] w fun e w' => ∃ g F, e = .returned (.tuple #[.pointer (some ⟨g, 0, none⟩), .int .i64 0]) ∧ Sg w' F g seed h n ∧ (∀ k, F k → w.heap.size ≤ k) ∧ Below w.heap.size w w'
  new_no : ∀ (seed : ByteArray) (h n : Int) (w : World), seed.size ≤ 140737488351232 → (-9223372036854775808 ≤ h ∧ h ≤ 9223372036854775807) → (-9223372036854775808 ≤ n ∧ n ≤ 9223372036854775807) → (h < 0 ∨ 7 < h ∨ n < 0 ∨ (2 : Int) ^ h.toNat < n) → Tab w →
    Calls Tryz.prog 6 #[.string seed, .int .i64 h, .int .i64 n] w fun e w' => e = .returned (.tuple #[.pointer none, .int .i64 1]) ∧ Below w.heap.size w w'
  pub : ∀ (w : World) (F : Nat → Prop) (g : Nat) (seed : ByteArray) (h n : Nat), Sg w F g seed h n → Tab w →
    Calls Tryz.prog 12 #[.pointer (some ⟨g, 0, none⟩)] w (SgTo Sg w F g seed h n (.string (keyB seed h)))
  spent : ∀ (w : World) (F : Nat → Prop) (g : Nat) (seed : ByteArray) (h n : Nat), Sg w F g seed h n → Tab w →
    Calls Tryz.prog 10 #[.pointer (some ⟨g, 0, none⟩)] w (SgTo Sg w F g seed h n (.int .i64 (n : Int)))
  sign_ok : ∀ (w : World) (F : Nat → Prop) (g : Nat) (seed : ByteArray) (h n : Nat) (msg : ByteArray), Sg w F g seed h n → n < 2 ^ h → msg.size ≤ 140737488351232 → Tab w →
    Calls Tryz.prog 8 #[.pointer (some ⟨g, 0, none⟩), .string msg] w (SgTo Sg w F g seed h (n + 1) (.tuple #[.string (sigB seed h n msg), .int .i64 0]))
  sign_no : ∀ (w : World) (F : Nat → Prop) (g : Nat) (seed : ByteArray) (h n : Nat) (msg : ByteArray), Sg w F g seed h n → n = 2 ^ h → msg.size ≤ 140737488351232 → Tab w →
    Calls Tryz.prog 8 #[.pointer (some ⟨g, 0, none⟩), .string msg] w (SgTo Sg w F g seed h n (.tuple #[.string .empty, .int .i64 70]))
  verify : ∀ (p msg sig : ByteArray) (w : World), p.size ≤ 140737488353000 → msg.size ≤ 140737488351232 → sig.size ≤ 140737488353000 → Tab w →
    Calls Tryz.prog 14 #[.string p, .string msg, .string sig] w fun e w' => e = .returned (.bool (verB p msg sig)) ∧ Below w.heap.size w w'
/-- A signer that other calls leave as it is. -/
theorem SigR.below {Sg : World → (Nat → Prop) → Nat → ByteArray → Nat → Nat → Prop} (R : SigR Sg) {w w' : World} {F : Nat → Prop} {g h n : Nat} {seed : ByteArray} (s : Sg w F g seed h n) (hb : Below w.heap.size w w') : Sg w' F g seed h n :=
  R.keep s (fun k hk => hb.block k (R.lt s k hk)) hb.size
theorem SigR.other {Sg : World → (Nat → Prop) → Nat → ByteArray → Nat → Nat → Prop} (R : SigR Sg) {w w' : World} {F G : Nat → Prop} {g h n : Nat} {seed : ByteArray} (s : Sg w F g seed h n) (ht : Turned G w w') (hd : ∀ k, F k → ¬ G k) : Sg w' F g seed h n :=
  R.keep s (fun k hk => ht.block k (R.lt s k hk) (hd k hk)) ht.size
end Go.Proofs.YtnbaoihamjdjdaaGreatDoor.Sp
