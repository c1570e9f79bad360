/- Plain tries: when two of them are the same, and how long their inputs are. No program is named here. -/
import Derived.Test.YtnkkckmejjcfkaaGreatDoorGzZ
namespace Go.Proofs.YtnkkckmejjcfkaaGreatDoor.Sp
open Go

theorem nine_perm {l m : List Ent} (hl : FitT l) (hm : FitT m) (nl : Nine l) (nm : Nine m) (h : ∀ q, q < 9 → getF l (pathC q) = getF m (pathC q)) : l.Perm m := by
  refine perm_of_get hl hm fun p => ?_
  by_cases hp : ∃ q, q < 9 ∧ p = pathC q
  · obtain ⟨q, hq, rfl⟩ := hp
    exact h q hq
  · have hn : ∀ q, q < 9 → p ≠ pathC q := fun q hq e => hp ⟨q, hq, e⟩
    rw [nl.get hn, nm.get hn]
/-- Are the first k of nine keys' values the same, and is there as much? -/
def sameF (l m : List Ent) (k : Nat) : Bool := decide (l.length = m.length) && (List.range k).all fun q => decide (getF l (pathC q) = getF m (pathC q))
theorem sameF_zero (l m : List Ent) : sameF l m 0 = decide (l.length = m.length) := by simp [sameF]
theorem sameF_succ (l m : List Ent) (k : Nat) : sameF l m (k + 1) = (sameF l m k && decide (getF l (pathC k) = getF m (pathC k))) := by
  unfold sameF
  rw [List.range_succ, List.all_append, Bool.and_assoc]
  simp
theorem sameF_iff (l m : List Ent) (k : Nat) : sameF l m k = true ↔ l.length = m.length ∧ ∀ q, q < k → getF l (pathC q) = getF m (pathC q) := by
  unfold sameF
  simp [List.all_eq_true]
/-- Two answers of Get, as they are compared. -/
theorem opt_same (v u : Option ByteArray) : (((v.getD .empty).toList == (u.getD .empty).toList) && (v.isSome == u.isSome)) = decide (v = u) := by
  cases v with
  | none => cases u with
    | none => simp
    | some u => simp
  | some v => cases u with
    | none => simp
    | some u =>
      by_cases e : v = u
      · subst e; simp
      · have h1 : decide (some v = some u) = false := decide_eq_false fun h => e (Option.some.inj h)
        have h2 := text_ne v u e
        rw [h1]
        simp only [Option.getD_some, h2, Bool.false_and]
/-- Tries of the same values are of one root; tries of unlike ones and one root are a clash. -/
theorem roots_cases {l m : List Ent} (hl : FitT l) (hm : FitT m) (nl : Nine l) (nm : Nine m) : (sameF l m 9 = true → rootF l = rootF m) ∧ (sameF l m 9 = false → rootF l = rootF m → ClashIn (inputsF 256 0 l ++ inputsF 256 0 m)) := by
  refine ⟨fun h => ?_, fun h hr => ?_⟩
  · obtain ⟨_, h2⟩ := (sameF_iff l m 9).1 h
    exact root_perm hl (nine_perm hl hm nl nm h2)
  · rcases roots_get hl hm hr with g | g
    · exfalso
      have hp := perm_of_get hl hm g
      have : sameF l m 9 = true := (sameF_iff l m 9).2 ⟨hp.length_eq, fun q _ => g _⟩
      rw [h] at this; cases this
    · exact g
theorem inT_two_size (d : UInt8) (a b : ByteArray) : (inT d [a, b]).size = 9 + a.size + b.size := by
  rw [← size_list]
  show (inB d [a, b]).length = _
  rw [← inp_all, inp_length]
  show len2 [a, b] 2 = _
  rw [len_two]
theorem inT_none_size (d : UInt8) : (inT d []).size = 1 := by
  rw [← size_list]; rfl
theorem tinputs_size {B : Nat} : ∀ (n d : Nat) (l : List Ent), Fit n d l → (∀ e ∈ l, e.2.size ≤ B) → ∀ x ∈ inputsF n d l, x.size ≤ 73 + B
  | n, d, [], _, _, x, hx => by
    have hx : x = inT 9 [] := by cases n <;> exact List.mem_singleton.1 hx
    rw [hx, inT_none_size]; omega
  | n, d, [e], h, hb, x, hx => by
    have hx : x = inT 7 [e.1, e.2] := by cases n <;> exact List.mem_singleton.1 hx
    have h1 := h.size e List.mem_cons_self
    have h2 := hb e List.mem_cons_self
    rw [hx, inT_two_size]; omega
  | 0, _, _ :: _ :: _, h, _, _, _ => h.zero.elim
  | n + 1, d, e :: f :: l, h, hb, x, hx => by
    rw [inputsF] at hx
    rcases List.mem_append.1 hx with hx | hx
    · rcases List.mem_append.1 hx with hx | hx
      · exact tinputs_size n (d + 1) _ (h.down 0) (fun z hz => hb z (filt_mem.1 hz).1) x hx
      · exact tinputs_size n (d + 1) _ (h.down 1) (fun z hz => hb z (filt_mem.1 hz).1) x hx
    · rw [List.mem_singleton.1 hx, inT_two_size]
      have h1 := hashF_32 n (d + 1) (filt 0 d (e :: f :: l))
      have h2 := hashF_32 n (d + 1) (filt 1 d (e :: f :: l))
      omega
/-- The inputs of the nine keys, k of them. -/
def keysIn (k : Nat) : List ByteArray := (List.range k).map fun q => inT 6 [keyC q]
theorem keysIn_succ (k : Nat) : keysIn (k + 1) = keysIn k ++ [inT 6 [keyC k]] := by unfold keysIn; rw [List.range_succ, List.map_append]; rfl
theorem keysIn_len (k : Nat) : (keysIn k).length = k := by simp [keysIn]
theorem keysIn_small (k : Nat) : ∀ x ∈ keysIn k, x.size ≤ 9223372036854775000 := by
  intro x hx
  obtain ⟨q, _, rfl⟩ := List.mem_map.1 hx
  exact inT_one_size _ _ (by show (1 : Nat) ≤ _; omega)
end Go.Proofs.YtnkkckmejjcfkaaGreatDoor.Sp
