/- Plain proofs: how they are made, and what Has and Lacks say of them. No program is named here. -/
import Derived.Test.YtnkkckmejjcfkaaGreatDoorGzZ
namespace Go.Proofs.YtnkkckmejjcfkaaGreatDoor.Sp
open Go

theorem proof_len {l : List Ent} (h : FitT l) (p : ByteArray) : (proofF l p).beside.length ≤ 256 ∧ ∀ x ∈ (proofF l p).beside, x.size = 32 := by
  obtain ⟨h1, h2, _, _⟩ := prove_end 256 0 l p h
  exact ⟨h1, h2⟩
theorem proof_value {l : List Ent} (h : FitT l) {B : Nat} (hb : ∀ e ∈ l, e.2.size ≤ B) (p : ByteArray) : (proofF l p).value.size ≤ B := by
  obtain ⟨_, _, h3, _⟩ := prove_end 256 0 l p h
  unfold proofF prfOf
  cases e : (proveF 256 0 l p).2 with
  | none => exact Nat.zero_le _
  | some x => exact hb x (h3 x e).1
/-- How a proof is made. -/
theorem proof_form {l : List Ent} (h : FitT l) (p : ByteArray) : ((proofF l p).leaf = true → (proofF l p).path.size = 32 ∧ ∀ k, k < (proofF l p).beside.length → bitN (proofF l p).path k = bitN p k) ∧ ((proofF l p).leaf = false → (proofF l p).path = .empty ∧ (proofF l p).value = .empty) := by
  obtain ⟨_, _, h3, _⟩ := prove_end 256 0 l p h
  unfold proofF prfOf
  cases e : (proveF 256 0 l p).2 with
  | none => exact ⟨(fun hl => by cases hl), fun _ => ⟨rfl, rfl⟩⟩
  | some x =>
    obtain ⟨m, hk⟩ := h3 x e
    exact ⟨fun _ => ⟨h.size x m, fun k hk' => hk k (Nat.zero_le _) (by simpa using hk')⟩, (fun hl => by cases hl)⟩
/-- What Has and Lacks say of what Prove shows. -/
theorem proof_says {l : List Ent} (h : FitT l) (p : ByteArray) : hasB (rootF l) p ((getF l p).getD .empty) (proofF l p) = (getF l p).isSome ∧ lacksB (rootF l) p (proofF l p) = (!(getF l p).isSome) ∧ ∀ u : ByteArray, u.size = ((getF l p).getD .empty).size + 1 → hasB (rootF l) p u (proofF l p) = false := by
  cases e : getF l p with
  | none =>
    obtain ⟨h1, h2⟩ := proof_lacks h e
    exact ⟨h2 _, h1, fun u _ => h2 u⟩
  | some v =>
    obtain ⟨h1, h2⟩ := proof_has h e
    refine ⟨h1, h2, fun u hu => proof_other h e fun he => ?_⟩
    rw [he] at hu
    simp at hu
end Go.Proofs.YtnkkckmejjcfkaaGreatDoor.Sp
