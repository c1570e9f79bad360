/- Inputs of unlike parts are unlike. -/
import Derived.Test.YtnbaoihamjdjdaaGreatDoorShaPb
import Derived.Test.YtnbaoihamjdjdaaGreatDoorMem
import Derived.Deep.AppendLies
import Derived.Test.YtnbaoihamjdjdaaGreatDoorReads
import Derived.BigQuiet
namespace Go.Proofs.YtnbaoihamjdjdaaGreatDoor.Sp
open Go
set_option maxRecDepth 100000

theorem bytes4_inj (x y : W) (h : bytes4 x = bytes4 y) : x = y := by
  unfold bytes4 at h
  injection h with h1 h
  injection h with h2 h
  injection h with h3 h
  injection h with h4 _
  rw [← word_bytes4 x, ← word_bytes4 y, h1, h2, h3, h4]
theorem partB_inj (s t : ByteArray) (r q : List UInt8) (hs : s.size < 4294967296) (ht : t.size < 4294967296) (h : partB s ++ r = partB t ++ q) : s = t ∧ r = q := by
  unfold partB at h
  rw [List.append_assoc, List.append_assoc] at h
  obtain ⟨h1, h2⟩ := List.append_inj h (by rw [bytes4_length, bytes4_length])
  have h3 := congrArg BitVec.toNat (bytes4_inj _ _ h1)
  rw [BitVec.toNat_ofNat, BitVec.toNat_ofNat] at h3
  obtain ⟨h4, h5⟩ := List.append_inj h2 (by rw [size_list, size_list]; omega)
  refine ⟨?_, h5⟩
  have h6 : s.data = t.data := Array.toList_inj.1 h4
  cases s; cases t; simp only at h6; rw [h6]
theorem flat_inj : ∀ (a b : List ByteArray), (∀ s ∈ a, s.size < 4294967296) → (∀ s ∈ b, s.size < 4294967296) → a.flatMap partB = b.flatMap partB → a = b
  | [], [], _, _, _ => rfl
  | [], t :: b, _, _, h => by
    exfalso
    have := congrArg List.length h
    simp [List.flatMap_cons, partB, bytes4_length] at this
    omega
  | s :: a, [], _, _, h => by
    exfalso
    have := congrArg List.length h
    simp [List.flatMap_cons, partB, bytes4_length] at this
  | s :: a, t :: b, h1, h2, h => by
    rw [List.flatMap_cons, List.flatMap_cons] at h
    obtain ⟨e1, e2⟩ := partB_inj s t _ _ (h1 s (by simp)) (h2 t (by simp)) h
    rw [e1, flat_inj a b (fun x hx => h1 x (by simp [hx])) (fun x hx => h2 x (by simp [hx])) e2]
theorem inB_inj (d e : UInt8) (a b : List ByteArray) (h1 : ∀ s ∈ a, s.size < 4294967296) (h2 : ∀ s ∈ b, s.size < 4294967296) (h : inB d a = inB e b) : d = e ∧ a = b := by
  unfold inB at h
  injection h with h3 h4
  exact ⟨h3, flat_inj a b h1 h2 h4⟩
end Go.Proofs.YtnbaoihamjdjdaaGreatDoor.Sp

/- Plain hash trees over texts: roots, paths, climbs, their inputs, and what follows of them. -/
namespace Go.Proofs.YtnbaoihamjdjdaaGreatDoor.Sp
open Go
set_option maxRecDepth 100000

def nodeB (a b : ByteArray) : ByteArray := ⟨(sum (inB 5 [a, b])).toArray⟩
def inpB (a b : ByteArray) : ByteArray := ⟨(inB 5 [a, b]).toArray⟩
def sumT (t : ByteArray) : ByteArray := ⟨(sum t.data.toList).toArray⟩
theorem node_sum (a b : ByteArray) : nodeB a b = sumT (inpB a b) := rfl
/-- The level above one. -/
def aboveB : List ByteArray → List ByteArray
  | a :: b :: l => nodeB a b :: aboveB l
  | _ => []
/-- The inputs of a level's nodes. -/
def pairsB : List ByteArray → List ByteArray
  | a :: b :: l => inpB a b :: pairsB l
  | _ => []
/-- So many levels up. -/
def upB : Nat → List ByteArray → List ByteArray
  | 0, l => l
  | h + 1, l => upB h (aboveB l)
def inputsUp : Nat → List ByteArray → List ByteArray
  | 0, _ => []
  | h + 1, l => pairsB l ++ inputsUp h (aboveB l)
/-- A pair's other one. -/
def sib (i : Nat) : Nat := if i % 2 = 0 then i + 1 else i - 1
def pathUp : Nat → List ByteArray → Nat → List ByteArray
  | 0, _, _ => []
  | h + 1, l, i => l.getD (sib i) .empty :: pathUp h (aboveB l) (i / 2)
def climbB (x : ByteArray) (i : Nat) : List ByteArray → ByteArray
  | [] => x
  | p :: ps => climbB (if i % 2 = 0 then nodeB x p else nodeB p x) (i / 2) ps
def climbedB (x : ByteArray) (i : Nat) : List ByteArray → List ByteArray
  | [] => []
  | p :: ps => (if i % 2 = 0 then inpB x p else inpB p x) :: climbedB (if i % 2 = 0 then nodeB x p else nodeB p x) (i / 2) ps

theorem nodeB_size (a b : ByteArray) : (nodeB a b).size = 32 := by rw [← size_list]; exact encode_length _
theorem inpB_inj (a b c d : ByteArray) (ha : a.size < 4294967296) (hb : b.size < 4294967296) (hc : c.size < 4294967296) (hd : d.size < 4294967296) (h : inpB a b = inpB c d) : a = c ∧ b = d := by
  have h1 : inB 5 [a, b] = inB 5 [c, d] := by
    have := congrArg (fun t : ByteArray => t.data.toList) h
    exact this
  have h2 := (inB_inj 5 5 [a, b] [c, d] (by intro s hs; simp at hs; rcases hs with rfl | rfl <;> assumption) (by intro s hs; simp at hs; rcases hs with rfl | rfl <;> assumption) h1).2
  simp only [List.cons.injEq, and_true] at h2
  exact h2
theorem above_len : ∀ l : List ByteArray, (aboveB l).length = l.length / 2
  | [] => rfl
  | [_] => by simp [aboveB]
  | a :: b :: l => by rw [aboveB, List.length_cons, above_len l, List.length_cons, List.length_cons]; omega
theorem pairs_len : ∀ l : List ByteArray, (pairsB l).length = l.length / 2
  | [] => rfl
  | [_] => by simp [pairsB]
  | a :: b :: l => by rw [pairsB, List.length_cons, pairs_len l, List.length_cons, List.length_cons]; omega
theorem above_get : ∀ (l : List ByteArray) (k : Nat), 2 * k + 1 < l.length → (aboveB l).getD k .empty = nodeB (l.getD (2 * k) .empty) (l.getD (2 * k + 1) .empty)
  | [], k, h => by simp at h
  | [_], k, h => by simp at h
  | a :: b :: l, 0, _ => rfl
  | a :: b :: l, k + 1, h => by
    simp only [List.length_cons] at h
    rw [aboveB, List.getD_cons_succ, above_get l k (by omega), show 2 * (k + 1) = 2 * k + 1 + 1 by omega]
    rfl
theorem pairs_get : ∀ (l : List ByteArray) (k : Nat), 2 * k + 1 < l.length → (pairsB l).getD k .empty = inpB (l.getD (2 * k) .empty) (l.getD (2 * k + 1) .empty)
  | [], k, h => by simp at h
  | [_], k, h => by simp at h
  | a :: b :: l, 0, _ => rfl
  | a :: b :: l, k + 1, h => by
    simp only [List.length_cons] at h
    rw [pairsB, List.getD_cons_succ, pairs_get l k (by omega), show 2 * (k + 1) = 2 * k + 1 + 1 by omega]
    rfl
theorem above_size : ∀ (l : List ByteArray), ∀ x ∈ aboveB l, x.size = 32
  | [], x, h => by simp [aboveB] at h
  | [_], x, h => by simp [aboveB] at h
  | a :: b :: l, x, h => by
    rw [aboveB] at h
    rcases List.mem_cons.1 h with rfl | h
    · exact nodeB_size a b
    · exact above_size l x h
theorem getD_mem_ (l : List ByteArray) (k : Nat) (h : k < l.length) : l.getD k .empty ∈ l := by
  rw [List.getD_eq_getElem?_getD, List.getElem?_eq_getElem h]; exact List.getElem_mem h
/-- A pair in order: the one at an even place first. -/
theorem pair_of (l : List ByteArray) (i : Nat) (hi : i < l.length) (he : l.length % 2 = 0) :
    (aboveB l).getD (i / 2) .empty = (if i % 2 = 0 then nodeB (l.getD i .empty) (l.getD (sib i) .empty) else nodeB (l.getD (sib i) .empty) (l.getD i .empty)) ∧
    (pairsB l).getD (i / 2) .empty = (if i % 2 = 0 then inpB (l.getD i .empty) (l.getD (sib i) .empty) else inpB (l.getD (sib i) .empty) (l.getD i .empty)) ∧ sib i < l.length := by
  rcases Nat.mod_two_eq_zero_or_one i with h | h
  · rw [above_get l (i / 2) (by omega), pairs_get l (i / 2) (by omega), if_pos h, if_pos h, sib, if_pos h, show 2 * (i / 2) = i by omega]
    exact ⟨rfl, rfl, by omega⟩
  · rw [above_get l (i / 2) (by omega), pairs_get l (i / 2) (by omega), if_neg (by omega), if_neg (by omega), sib, if_neg (by omega), show 2 * (i / 2) = i - 1 by omega, show i - 1 + 1 = i by omega]
    exact ⟨rfl, rfl, by omega⟩
theorem pow_half (n h : Nat) (e : n = 2 ^ (h + 1)) : n % 2 = 0 ∧ n / 2 = 2 ^ h := by rw [Nat.pow_succ] at e; omega

/-- Climb of a leaf and its path is the root. -/
theorem climb_path : ∀ (h : Nat) (l : List ByteArray) (i : Nat), l.length = 2 ^ h → i < l.length → climbB (l.getD i .empty) i (pathUp h l i) = (upB h l).getD 0 .empty
  | 0, l, i, hl, hi => by
    have : i = 0 := by rw [hl] at hi; simp at hi; exact hi
    rw [this]; rfl
  | h + 1, l, i, hl, hi => by
    obtain ⟨h1, h2⟩ := pow_half _ _ hl
    have e := (pair_of l i hi h1).1
    rw [pathUp, climbB, ← e]
    exact climb_path h (aboveB l) (i / 2) (by rw [above_len, h2]) (by rw [above_len]; omega)
/-- Two unlike texts have one sum. -/
def ClashIn (l : List ByteArray) : Prop := ∃ u v, u ∈ l ∧ v ∈ l ∧ u ≠ v ∧ sumT u = sumT v
theorem ClashIn.mono {l m : List ByteArray} (h : ClashIn l) (hs : ∀ x ∈ l, x ∈ m) : ClashIn m := by
  obtain ⟨u, v, h1, h2, h3, h4⟩ := h
  exact ⟨u, v, hs _ h1, hs _ h2, h3, h4⟩
/-- What climbs to the root is the leaf there, and its path is the leaf's; or there is a clash. -/
theorem sound_up : ∀ (h : Nat) (l : List ByteArray) (i : Nat) (x : ByteArray) (p : List ByteArray), l.length = 2 ^ h → i < l.length → p.length = h → x.size = 32 → (∀ y ∈ l, y.size = 32) → (∀ y ∈ p, y.size = 32) →
    climbB x i p = (upB h l).getD 0 .empty → (x = l.getD i .empty ∧ p = pathUp h l i) ∨ ClashIn (inputsUp h l ++ climbedB x i p)
  | 0, l, i, x, p, hl, hi, hp, _, _, _, e => by
    have hi0 : i = 0 := by rw [hl] at hi; simp at hi; exact hi
    have hp0 : p = [] := List.length_eq_zero_iff.1 hp
    subst hi0 hp0
    exact .inl ⟨e, rfl⟩
  | h + 1, l, i, x, [], _, _, hp, _, _, _, _ => by simp at hp
  | h + 1, l, i, x, q :: ps, hl, hi, hp, hx, hs, hps, e => by
    obtain ⟨h1, h2⟩ := pow_half _ _ hl
    obtain ⟨e1, e2, e3⟩ := pair_of l i hi h1
    obtain ⟨y, hy⟩ : ∃ y, (if i % 2 = 0 then nodeB x q else nodeB q x) = y := ⟨_, rfl⟩
    obtain ⟨t, ht⟩ : ∃ t, (if i % 2 = 0 then inpB x q else inpB q x) = t := ⟨_, rfl⟩
    have hyt : y = sumT t := by rw [← hy, ← ht]; split <;> rfl
    have hy32 : y.size = 32 := by rw [← hy]; split <;> exact nodeB_size _ _
    have hq32 : q.size = 32 := hps q (List.mem_cons_self ..)
    have hl32 := hs _ (getD_mem_ l i hi)
    have hm32 := hs _ (getD_mem_ l (sib i) e3)
    rw [climbB, hy] at e
    rw [climbedB, hy, ht]
    rcases sound_up h (aboveB l) (i / 2) y ps (by rw [above_len, h2]) (by rw [above_len]; omega) (by simpa using hp) hy32 (above_size l) (fun z hz => hps z (List.mem_cons_of_mem _ hz)) e with ⟨g1, g2⟩ | g
    · have hin : (pairsB l).getD (i / 2) .empty ∈ pairsB l := getD_mem_ _ _ (by rw [pairs_len]; omega)
      by_cases hu : t = (pairsB l).getD (i / 2) .empty
      · left
        rw [e2, ← ht] at hu
        rw [pathUp, ← g2]
        split at hu
        · obtain ⟨a1, a2⟩ := inpB_inj _ _ _ _ (by omega) (by omega) (by omega) (by omega) hu
          exact ⟨a1, by rw [a2]⟩
        · obtain ⟨a1, a2⟩ := inpB_inj _ _ _ _ (by omega) (by omega) (by omega) (by omega) hu
          exact ⟨a2, by rw [a1]⟩
      · right
        refine ⟨t, _, List.mem_append_right _ (List.mem_cons_self ..), List.mem_append_left _ (List.mem_append_left _ hin), hu, ?_⟩
        rw [← hyt, g1, e1, e2]
        split <;> rfl
    · right
      refine g.mono fun z hz => ?_
      rcases List.mem_append.1 hz with hz | hz
      · exact List.mem_append_left _ (List.mem_append_right _ hz)
      · exact List.mem_append_right _ (List.mem_cons_of_mem _ hz)
/-- Of unlike leaves, as many, the roots are unlike; or there is a clash. -/
theorem above_inj : ∀ (a b : List ByteArray), a.length = b.length → a.length % 2 = 0 → (∀ y ∈ a, y.size = 32) → (∀ y ∈ b, y.size = 32) → aboveB a = aboveB b → a = b ∨ ClashIn (pairsB a ++ pairsB b)
  | [], [], _, _, _, _, _ => .inl rfl
  | [], _ :: _, h, _, _, _, _ => by simp at h
  | [_], _, _, h, _, _, _ => by simp at h
  | _ :: _ :: _, [], h, _, _, _, _ => by simp at h
  | _ :: _ :: _, [_], h, _, _, _, _ => by simp at h
  | a :: b :: l, c :: d :: m, h, h2, h3, h4, e => by
    rw [aboveB, aboveB] at e
    injection e with e1 e2
    rcases above_inj l m (by simpa using h) (by simp only [List.length_cons] at h2; omega) (fun y hy => h3 y (List.mem_cons_of_mem _ (List.mem_cons_of_mem _ hy))) (fun y hy => h4 y (List.mem_cons_of_mem _ (List.mem_cons_of_mem _ hy))) e2 with g | g
    · by_cases hu : inpB a b = inpB c d
      · left
        have z1 := h3 a (by simp)
        have z2 := h3 b (by simp)
        have z3 := h4 c (by simp)
        have z4 := h4 d (by simp)
        obtain ⟨a1, a2⟩ := inpB_inj _ _ _ _ (by omega) (by omega) (by omega) (by omega) hu
        rw [a1, a2, g]
      · exact .inr ⟨_, _, List.mem_append_left _ (by rw [pairsB]; exact List.mem_cons_self ..), List.mem_append_right _ (by rw [pairsB]; exact List.mem_cons_self ..), hu, e1⟩
    · right
      refine g.mono fun z hz => ?_
      rw [pairsB, pairsB]
      rcases List.mem_append.1 hz with hz | hz
      · exact List.mem_append_left _ (List.mem_cons_of_mem _ hz)
      · exact List.mem_append_right _ (List.mem_cons_of_mem _ hz)
theorem roots_up : ∀ (h : Nat) (a b : List ByteArray), a.length = 2 ^ h → b.length = 2 ^ h → (∀ y ∈ a, y.size = 32) → (∀ y ∈ b, y.size = 32) →
    (upB h a).getD 0 .empty = (upB h b).getD 0 .empty → a = b ∨ ClashIn (inputsUp h a ++ inputsUp h b)
  | 0, a, b, ha, hb, _, _, e => by
    obtain ⟨x, rfl⟩ := List.length_eq_one_iff.1 ha
    obtain ⟨y, rfl⟩ := List.length_eq_one_iff.1 hb
    left
    have e' : x = y := e
    rw [e']
  | h + 1, a, b, ha, hb, h3, h4, e => by
    obtain ⟨h1, h2⟩ := pow_half _ _ ha
    obtain ⟨_, h2'⟩ := pow_half _ _ hb
    rcases roots_up h (aboveB a) (aboveB b) (by rw [above_len, h2]) (by rw [above_len, h2']) (above_size a) (above_size b) e with g | g
    · rcases above_inj a b (by rw [ha, hb]) h1 h3 h4 g with g | g
      · exact .inl g
      · right
        refine g.mono fun z hz => ?_
        rcases List.mem_append.1 hz with hz | hz
        · exact List.mem_append_left _ (List.mem_append_left _ hz)
        · exact List.mem_append_right _ (List.mem_append_left _ hz)
    · right
      refine g.mono fun z hz => ?_
      rcases List.mem_append.1 hz with hz | hz
      · exact List.mem_append_left _ (List.mem_append_right _ hz)
      · exact List.mem_append_right _ (List.mem_append_right _ hz)

theorem inputs_len : ∀ (h : Nat) (l : List ByteArray), l.length = 2 ^ h → (inputsUp h l).length = 2 ^ h - 1
  | 0, _, _ => rfl
  | h + 1, l, hl => by
    obtain ⟨_, h2⟩ := pow_half _ _ hl
    rw [inputsUp, List.length_append, pairs_len, h2, inputs_len h (aboveB l) (by rw [above_len, h2])]
    have : 0 < 2 ^ h := Nat.pow_pos (by omega)
    rw [Nat.pow_succ]; omega
theorem up_len : ∀ (h : Nat) (l : List ByteArray), l.length = 2 ^ h → (upB h l).length = 1
  | 0, _, hl => hl
  | h + 1, l, hl => by rw [upB]; exact up_len h (aboveB l) (by rw [above_len, (pow_half _ _ hl).2])
theorem path_len : ∀ (h : Nat) (l : List ByteArray) (i : Nat), (pathUp h l i).length = h
  | 0, _, _ => rfl
  | h + 1, l, i => by rw [pathUp, List.length_cons, path_len h]
theorem climbed_len : ∀ (p : List ByteArray) (x : ByteArray) (i : Nat), (climbedB x i p).length = p.length
  | [], _, _ => rfl
  | q :: ps, x, i => by rw [climbedB, List.length_cons, climbed_len ps, List.length_cons]
/-- The last of the inputs has the root as its sum. -/
theorem inputs_last : ∀ (h : Nat) (l : List ByteArray), l.length = 2 ^ (h + 1) → sumT ((inputsUp (h + 1) l).getLastD .empty) = (upB (h + 1) l).getD 0 .empty
  | 0, l, hl => by
    match l, hl with
    | [a, b], _ => rfl
  | h + 1, l, hl => by
    obtain ⟨_, h2⟩ := pow_half _ _ hl
    have e := inputs_last h (aboveB l) (by rw [above_len, h2])
    have n := inputs_len (h + 1) (aboveB l) (by rw [above_len, h2])
    have p : 2 ≤ 2 ^ (h + 1) := by rw [Nat.pow_succ]; have : 0 < 2 ^ h := Nat.pow_pos (by omega); omega
    rw [inputsUp, upB, ← e]
    congr 1
    have hne : inputsUp (h + 1) (aboveB l) ≠ [] := by intro hx; rw [hx] at n; simp at n; omega
    rw [List.getLastD_eq_getLast?, List.getLastD_eq_getLast?, List.getLast?_append]
    rw [List.getLast?_eq_some_getLast hne]; rfl
theorem climbed_last : ∀ (p : List ByteArray) (x : ByteArray) (i : Nat), p ≠ [] → sumT ((climbedB x i p).getLastD .empty) = climbB x i p
  | [], _, _, h => absurd rfl h
  | [q], x, i, _ => by
    rw [climbedB, climbedB, climbB, climbB]
    show sumT (if i % 2 = 0 then _ else _) = _
    split <;> rfl
  | q :: r :: ps, x, i, _ => by
    have e := climbed_last (r :: ps) (if i % 2 = 0 then nodeB x q else nodeB q x) (i / 2) (by simp)
    rw [climbedB, climbB, ← e]
    rfl
/-- Halves. -/
theorem above_app : ∀ (a b : List ByteArray), a.length % 2 = 0 → aboveB (a ++ b) = aboveB a ++ aboveB b
  | [], _, _ => rfl
  | [_], _, h => by simp at h
  | x :: y :: l, b, h => by
    rw [List.cons_append, List.cons_append, aboveB, aboveB, above_app l b (by simp only [List.length_cons] at h; omega)]; rfl
theorem halves_up : ∀ (h : Nat) (a b : List ByteArray), a.length = 2 ^ h → b.length = 2 ^ h → (upB (h + 1) (a ++ b)).getD 0 .empty = nodeB ((upB h a).getD 0 .empty) ((upB h b).getD 0 .empty)
  | 0, a, b, ha, hb => by
    obtain ⟨x, rfl⟩ := List.length_eq_one_iff.1 ha
    obtain ⟨y, rfl⟩ := List.length_eq_one_iff.1 hb
    rfl
  | h + 1, a, b, ha, hb => by
    obtain ⟨h1, h2⟩ := pow_half _ _ ha
    obtain ⟨_, h2'⟩ := pow_half _ _ hb
    rw [upB, above_app a b h1, halves_up h (aboveB a) (aboveB b) (by rw [above_len, h2]) (by rw [above_len, h2'])]
    rfl
/-- The last text of a path is the other half's root. -/
theorem path_other : ∀ (h : Nat) (a b : List ByteArray) (i : Nat), a.length = 2 ^ h → b.length = 2 ^ h → i < 2 ^ (h + 1) →
    (pathUp (h + 1) (a ++ b) i).getLastD .empty = (if 2 ^ h ≤ i then (upB h a).getD 0 .empty else (upB h b).getD 0 .empty)
  | 0, a, b, i, ha, hb, hi => by
    obtain ⟨x, rfl⟩ := List.length_eq_one_iff.1 ha
    obtain ⟨y, rfl⟩ := List.length_eq_one_iff.1 hb
    rcases (show i = 0 ∨ i = 1 by simp at hi; omega) with rfl | rfl <;> rfl
  | h + 1, a, b, i, ha, hb, hi => by
    obtain ⟨h1, h2⟩ := pow_half _ _ ha
    obtain ⟨_, h2'⟩ := pow_half _ _ hb
    have e := path_other h (aboveB a) (aboveB b) (i / 2) (by rw [above_len, h2]) (by rw [above_len, h2']) (by rw [Nat.pow_succ] at hi; omega)
    rw [pathUp, above_app a b h1]
    have hne : pathUp (h + 1) (aboveB a ++ aboveB b) (i / 2) ≠ [] := by intro hx; have := path_len (h + 1) (aboveB a ++ aboveB b) (i / 2); rw [hx] at this; simp at this
    have hc : ((a ++ b).getD (sib i) .empty :: pathUp (h + 1) (aboveB a ++ aboveB b) (i / 2)).getLastD .empty = (pathUp (h + 1) (aboveB a ++ aboveB b) (i / 2)).getLastD .empty := by
      obtain ⟨z, zs, hz⟩ := List.exists_cons_of_ne_nil hne
      rw [hz]; rfl
    rw [hc, e]
    have : (2 ^ h ≤ i / 2) ↔ (2 ^ (h + 1) ≤ i) := by rw [Nat.pow_succ]; omega
    simp only [this]
    rfl
/-- Of two leaves side by side the paths are the same behind their first. -/
theorem path_sib (h : Nat) (l : List ByteArray) (i : Nat) : (pathUp (h + 1) l i).drop 1 = (pathUp (h + 1) l (sib i)).drop 1 := by
  have e : i / 2 = sib i / 2 := by unfold sib; split <;> omega
  rw [pathUp, pathUp, ← e]; rfl
theorem sib_sib (i : Nat) : sib (sib i) = i := by unfold sib; split <;> split <;> omega
end Go.Proofs.YtnbaoihamjdjdaaGreatDoor.Sp

/- Hash trees, as loops make them: level by level from below. -/
namespace Go.Proofs.YtnbaoihamjdjdaaGreatDoor.Sp
open Go
set_option maxRecDepth 100000

theorem up_succ : ∀ (k : Nat) (l : List ByteArray), upB (k + 1) l = aboveB (upB k l)
  | 0, _ => rfl
  | k + 1, l => by rw [upB, up_succ k (aboveB l)]; rfl
theorem half_pow (i k : Nat) : i / 2 / 2 ^ k = i / 2 ^ (k + 1) := by rw [Nat.div_div_eq_div_mul, Nat.pow_succ, Nat.mul_comm]
theorem path_succ : ∀ (k : Nat) (l : List ByteArray) (i : Nat), pathUp (k + 1) l i = pathUp k l i ++ [(upB k l).getD (sib (i / 2 ^ k)) .empty]
  | 0, l, i => by rw [pathUp, pathUp, pathUp, upB, Nat.pow_zero, Nat.div_one]; rfl
  | k + 1, l, i => by
    rw [pathUp, path_succ k (aboveB l) (i / 2), half_pow]
    rfl
theorem inputs_succ : ∀ (k : Nat) (l : List ByteArray), inputsUp (k + 1) l = inputsUp k l ++ pairsB (upB k l)
  | 0, l => by show pairsB l ++ [] = [] ++ pairsB l; simp
  | k + 1, l => by
    rw [inputsUp, inputs_succ k (aboveB l), inputsUp, List.append_assoc]
    rfl
theorem up_pow : ∀ (k m : Nat) (l : List ByteArray), l.length = 2 ^ (k + m) → (upB k l).length = 2 ^ m
  | 0, m, l, h => by rw [Nat.zero_add] at h; exact h
  | k + 1, m, l, h => by
    rw [upB]
    exact up_pow k m (aboveB l) (by rw [above_len, (pow_half l.length (k + m) (by rw [h]; congr 1; omega)).2])
theorem take_two (l : List ByteArray) (j : Nat) (h : 2 * j + 1 < l.length) : l.take (2 * (j + 1)) = l.take (2 * j) ++ [l.getD (2 * j) .empty, l.getD (2 * j + 1) .empty] := by
  have e : ∀ k, k < l.length → l.take (k + 1) = l.take k ++ [l.getD k .empty] := by
    intro k hk
    rw [List.take_succ_eq_append_getElem hk, List.getD_eq_getElem?_getD, List.getElem?_eq_getElem hk]; rfl
  rw [show 2 * (j + 1) = 2 * j + 1 + 1 by omega, e _ h, e _ (by omega), List.append_assoc]
  rfl
theorem above_take (l : List ByteArray) (j : Nat) (h : 2 * j + 1 < l.length) : aboveB (l.take (2 * (j + 1))) = aboveB (l.take (2 * j)) ++ [nodeB (l.getD (2 * j) .empty) (l.getD (2 * j + 1) .empty)] := by
  rw [take_two l j h, above_app _ _ (by rw [List.length_take]; omega)]
  rfl
theorem pairs_app : ∀ (a b : List ByteArray), a.length % 2 = 0 → pairsB (a ++ b) = pairsB a ++ pairsB b
  | [], _, _ => rfl
  | [_], _, h => by simp at h
  | x :: y :: l, b, h => by
    rw [List.cons_append, List.cons_append, pairsB, pairsB, pairs_app l b (by simp only [List.length_cons] at h; omega)]; rfl
theorem pairs_take (l : List ByteArray) (j : Nat) (h : 2 * j + 1 < l.length) : pairsB (l.take (2 * (j + 1))) = pairsB (l.take (2 * j)) ++ [inpB (l.getD (2 * j) .empty) (l.getD (2 * j + 1) .empty)] := by
  rw [take_two l j h, pairs_app _ _ (by rw [List.length_take]; omega)]
  rfl
theorem above_odd : ∀ (l : List ByteArray) (x : ByteArray), l.length % 2 = 0 → aboveB (l ++ [x]) = aboveB l ∧ pairsB (l ++ [x]) = pairsB l
  | [], x, _ => ⟨rfl, rfl⟩
  | [_], _, h => by simp at h
  | a :: b :: l, x, h => by
    obtain ⟨h1, h2⟩ := above_odd l x (by simp only [List.length_cons] at h; omega)
    rw [List.cons_append, List.cons_append, aboveB, aboveB, pairsB, pairsB, h1, h2]
    exact ⟨rfl, rfl⟩
/-- A loop over pairs has gone through. -/
theorem above_done (l : List ByteArray) (j : Nat) (h : ¬ 2 * j + 1 < l.length) (h2 : 2 * j ≤ l.length) : aboveB (l.take (2 * j)) = aboveB l ∧ pairsB (l.take (2 * j)) = pairsB l := by
  rcases (show l.length = 2 * j ∨ l.length = 2 * j + 1 by omega) with e | e
  · rw [List.take_of_length_le (by omega)]; exact ⟨rfl, rfl⟩
  · have e2 : l = l.take (2 * j) ++ [l.getD (2 * j) .empty] := by
      have hk : 2 * j < l.length := by omega
      have e3 := List.take_succ_eq_append_getElem hk
      rw [List.take_of_length_le (by omega)] at e3
      rw [List.getD_eq_getElem?_getD, List.getElem?_eq_getElem hk]
      exact e3
    obtain ⟨h3, h4⟩ := above_odd (l.take (2 * j)) (l.getD (2 * j) .empty) (by rw [List.length_take]; omega)
    rw [← e2] at h3 h4
    exact ⟨h3.symm, h4.symm⟩

/-- May there be so many leaves? Then they are 2 to some height of at most 7. -/
def mayN (n : Nat) : Prop := ∃ h, h ≤ 7 ∧ n = 2 ^ h
def hOf (n : Nat) : Nat := Nat.log2 n
theorem hOf_pow (h : Nat) : hOf (2 ^ h) = h := Nat.log2_two_pow
instance (n : Nat) : Decidable (mayN n) := decidable_of_iff (∃ h : Fin 8, n = 2 ^ h.val) ⟨fun ⟨h, e⟩ => ⟨h.val, by omega, e⟩, fun ⟨h, h7, e⟩ => ⟨⟨h, by omega⟩, e⟩⟩
def rootB (l : List ByteArray) : ByteArray := if mayN l.length then (upB (hOf l.length) l).getD 0 .empty else .empty
def pathB (l : List ByteArray) (i : Int) : List ByteArray := if mayN l.length ∧ 0 ≤ i ∧ i < l.length then pathUp (hOf l.length) l i.toNat else []
def inputsB (l : List ByteArray) : List ByteArray := if mayN l.length then inputsUp (hOf l.length) l else []
theorem root_pow (l : List ByteArray) (h : Nat) (h7 : h ≤ 7) (e : l.length = 2 ^ h) : rootB l = (upB h l).getD 0 .empty := by
  unfold rootB; rw [if_pos ⟨h, h7, e⟩, e, hOf_pow]
theorem path_pow (l : List ByteArray) (h i : Nat) (h7 : h ≤ 7) (e : l.length = 2 ^ h) (hi : i < l.length) : pathB l (i : Int) = pathUp h l i := by
  unfold pathB; rw [if_pos ⟨⟨h, h7, e⟩, by omega, by omega⟩, e, hOf_pow]; rfl
theorem inputs_pow (l : List ByteArray) (h : Nat) (h7 : h ≤ 7) (e : l.length = 2 ^ h) : inputsB l = inputsUp h l := by
  unfold inputsB; rw [if_pos ⟨h, h7, e⟩, e, hOf_pow]
end Go.Proofs.YtnbaoihamjdjdaaGreatDoor.Sp

/- Slices of texts of a call's own, and what stays as it was (no layer is named here). -/
namespace Go.Proofs.YtnbaoihamjdjdaaGreatDoor.Sp
open Go Go.RowKit
set_option maxRecDepth 100000

/-- A slice of texts of the call's own. -/
def OwnT (w : World) (base : Nat) (v : Value) (l : List ByteArray) : Prop := w.ownsRow base 9 1 v l.length (l.map Value.string)
theorem infoText : (Tryz.prog.info? 9).map (fun i => (i.zero, i.size, i.bytes)) = some (some (.string .empty), 1, 16) := by kernel_rfl
theorem own_below {w w' : World} {base : Nat} {e : TypeId} {size n : Nat} {v : Value} {xs : List Value} (h : w.ownsRow base e size v n xs) (hb : Below w.heap.size w w') : w'.ownsRow base e size v n xs :=
  h.kept (row := none) ⟨hb.os, hb.tape, hb.output, hb.size, fun i hi _ => hb.block i hi⟩ (by cases v.ownBlock <;> simp)
theorem below_of_drew {w w1 : World} (h : Below w.drew.heap.size w.drew w1) : Below w.heap.size w w1 := (Below.refl _ _).drew.trans h
/-- It has a block of its own, if it has a text. -/
theorem OwnT.slice {w : World} {base : Nat} {v : Value} {l : List ByteArray} (h : OwnT w base v l) (hpos : 0 < l.length) :
    ∃ g c, v = .slice (some ⟨g, 0, none⟩) l.length c ∧ base ≤ g ∧ g < w.heap.size ∧ l.length ≤ c ∧ ∀ (j : Nat) x, l[j]? = some x → w.cell? ⟨g, j, none⟩ = some (.string x) := by
  rcases h.2 with ⟨_, h2⟩ | ⟨g, cap, cur, h1, hb, _, hc, _⟩
  · omega
  · have hg := World.ownsRow.lt h g (by rw [h1]; rfl)
    refine ⟨g, cap, h1, hg.1, hg.2, hc, fun j x hj => ?_⟩
    have hcl := World.ownsRow.cells h (g := g) (by rw [h1]; rfl) j (.string x) (by simp [hj])
    rw [show (⟨g, 0, none⟩ : Addr).add j = ⟨g, 0 + j, none⟩ from by unfold Addr.add; split <;> simp_all, Nat.zero_add] at hcl
    exact hcl
end Go.Proofs.YtnbaoihamjdjdaaGreatDoor.Sp

/- Slices of texts of a call's own; what stays as it was. -/
namespace Go.Proofs.YtnbaoihamjdjdaaGreatDoor.Sp
open Go Go.RowKit
set_option maxRecDepth 100000

theorem OwnT.strs {w : World} {base : Nat} {v : Value} {l : List ByteArray} (h : OwnT w base v l) : ∃ a c, v = .slice a l.length c ∧ Strs w a l.length l := by
  rcases h.2 with ⟨h1, h2⟩ | ⟨g, cap, cur, h1, _⟩
  · exact ⟨none, 0, by rw [h1, h2], rfl, fun hp => by omega⟩
  · refine ⟨_, _, h1, rfl, fun hp => ⟨g, 0, rfl, fun j hj => ?_⟩⟩
    have hc := World.ownsRow.cells h (g := g) (by rw [h1]; rfl) j (.string (l.getD j ByteArray.empty)) (by simp [List.getD, hj])
    rw [show (⟨g, 0, none⟩ : Addr).add j = ⟨g, 0 + j, none⟩ from by unfold Addr.add; split <;> simp_all] at hc
    exact hc

theorem Cells.below_ {w w' : World} {a : Option Addr} {n : Nat} {f : Nat → Value} (h : Cells w a n f) (hb : Below w.heap.size w w') : Cells w' a n f := fun hn => by
  obtain ⟨b, off, e, hc⟩ := h hn
  exact ⟨b, off, e, fun j hj => (hb.cell (p := ⟨b, off + j, none⟩) (block_lt_of_cell (hc j hj))).trans (hc j hj)⟩
/-- As OwnT.strs, and where its block lies. -/
theorem OwnT.strs_ {w : World} {base : Nat} {v : Value} {l : List ByteArray} (h : OwnT w base v l) : ∃ a c, v = .slice a l.length c ∧ Strs w a l.length l ∧ (∀ p, a = some p → base ≤ p.block ∧ p.block < w.heap.size) ∧ l.length ≤ c := by
  obtain ⟨a, c, rfl, hs⟩ := h.strs
  refine ⟨a, c, rfl, hs, fun p hp => ?_, ?_⟩
  · subst hp
    exact World.ownsRow.lt h p.block rfl
  · rcases h.2 with ⟨h1, h2⟩ | ⟨g, cap, cur, h1, _, _, hc, _⟩
    · omega
    · injection h1 with _ _ h3
      omega
theorem Strs.grown_ {w w' : World} {a : Option Addr} {n : Nat} {ss : List ByteArray} {row : Option Nat} (h : Strs w a n ss) (hg : w.grownBy w' row) (hne : ∀ p, a = some p → some p.block ≠ row) : Strs w' a n ss := by
  refine ⟨h.1, fun hp => ?_⟩
  obtain ⟨b, off, e, hc⟩ := h.2 hp
  refine ⟨b, off, e, fun j hj => ?_⟩
  exact World.grownBy.cell hg (a := ⟨b, off + j, none⟩) (hc j hj) (hne ⟨b, off, none⟩ e)
theorem Strs.lt_ {w : World} {a : Option Addr} {n : Nat} {ss : List ByteArray} (h : Strs w a n ss) (hp : 0 < n) : ∀ p, a = some p → p.block < w.heap.size := by
  obtain ⟨b, off, e, hc⟩ := h.2 hp
  intro p hq
  rw [e] at hq
  injection hq with hq
  subst hq
  exact block_lt_of_cell (hc 0 hp)
/-- A row of a call's own, and a list that lies elsewhere. -/
def Apart (v : Value) (a : Option Addr) : Prop := ∀ g p, v.ownBlock = some g → a = some p → p.block ≠ g
end Go.Proofs.YtnbaoihamjdjdaaGreatDoor.Sp

/- Package tree, plain: what climbs come to, text by text; what hands back a list of texts. (No statement and no program is named here.) -/
namespace Go.Proofs.YtnbaoihamjdjdaaGreatDoor.Sp
open Go Go.RowKit
set_option maxRecDepth 100000

/-- What hands back a list of texts, in memory of its own. -/
def TextsTo (l : List ByteArray) (w : World) (e : Ending) (w' : World) : Prop :=
  ∃ (a : Option Addr) (c : Nat), e = .returned (.slice a l.length c) ∧ Strs w' a l.length l ∧ Below w.heap.size w w' ∧ (∀ p, a = some p → w.heap.size ≤ p.block) ∧ l.length ≤ c

theorem climb_snoc : ∀ (ps : List ByteArray) (x p : ByteArray) (i : Nat), climbB x i (ps ++ [p]) = if i / 2 ^ ps.length % 2 = 0 then nodeB (climbB x i ps) p else nodeB p (climbB x i ps)
  | [], x, p, i => by
    rw [List.nil_append, climbB, climbB, climbB, List.length_nil, Nat.pow_zero, Nat.div_one]
  | q :: ps, x, p, i => by
    rw [List.cons_append, climbB, climb_snoc ps, climbB, List.length_cons, half_pow]
theorem climb_take (path : List ByteArray) (k : Nat) (hk : k < path.length) (x : ByteArray) (i : Nat) :
    climbB x i (path.take (k + 1)) = if i / 2 ^ k % 2 = 0 then nodeB (climbB x i (path.take k)) (path.getD k ByteArray.empty) else nodeB (path.getD k ByteArray.empty) (climbB x i (path.take k)) := by
  rw [take_getB path k hk, climb_snoc, List.length_take, Nat.min_eq_left (by omega)]
theorem climb_size (path : List ByteArray) (x : ByteArray) (i : Nat) : path = [] ∧ climbB x i path = x ∨ (climbB x i path).size = 32 := by
  rcases List.eq_nil_or_concat path with h | ⟨ps, p, h⟩
  · exact .inl ⟨h, by rw [h]; rfl⟩
  · right
    rw [h, List.concat_eq_append, climb_snoc]
    split <;> exact nodeB_size _ _
def climbI (x : ByteArray) (i : Int) (path : List ByteArray) : ByteArray := climbB x i.toNat path

theorem climbed_snoc : ∀ (ps : List ByteArray) (x p : ByteArray) (i : Nat), climbedB x i (ps ++ [p]) = climbedB x i ps ++ [if i / 2 ^ ps.length % 2 = 0 then inpB (climbB x i ps) p else inpB p (climbB x i ps)]
  | [], x, p, i => by
    rw [List.nil_append, climbedB, climbedB, climbedB, climbB, List.length_nil, Nat.pow_zero, Nat.div_one]
    rfl
  | q :: ps, x, p, i => by
    rw [List.cons_append, climbedB, climbed_snoc ps, climbedB, climbB, List.length_cons, half_pow]
    rfl
theorem climbed_take (path : List ByteArray) (k : Nat) (hk : k < path.length) (x : ByteArray) (i : Nat) :
    climbedB x i (path.take (k + 1)) = climbedB x i (path.take k) ++ [if i / 2 ^ k % 2 = 0 then inpB (climbB x i (path.take k)) (path.getD k ByteArray.empty) else inpB (path.getD k ByteArray.empty) (climbB x i (path.take k))] := by
  rw [take_getB path k hk, climbed_snoc, List.length_take, Nat.min_eq_left (by omega)]
def climbedI (x : ByteArray) (i : Int) (path : List ByteArray) : List ByteArray := climbedB x i.toNat path

end Go.Proofs.YtnbaoihamjdjdaaGreatDoor.Sp

/- Package tree: texts alike; how many leaves there may be. -/
namespace Go.Proofs.YtnbaoihamjdjdaaGreatDoor.Sp
open Go Go.RowKit

theorem text_self (x : ByteArray) : (x.toList == x.toList) = true := by simp
theorem text_ne (x y : ByteArray) (h : x ≠ y) : (x.toList == y.toList) = false := by
  cases e : (x.toList == y.toList) with
  | false => rfl
  | true =>
    exfalso
    apply h
    have e2 := eq_of_beq e
    rw [Lib.toList_data, Lib.toList_data] at e2
    have h6 := Array.toList_inj.1 e2
    cases x; cases y; simp only at h6; rw [h6]
theorem texts_ext (A B : List ByteArray) (n : Nat) (hA : A.length = n) (hB : B.length = n) (h : ∀ j, j < n → A.getD j ByteArray.empty = B.getD j ByteArray.empty) : A = B := by
  apply List.ext_getElem (by omega)
  intro j h1 h2
  have q : ∀ (l : List ByteArray) (hj : j < l.length), l[j] = l.getD j ByteArray.empty := by
    intro l hj; rw [List.getD_eq_getElem?_getD, List.getElem?_eq_getElem hj]; rfl
  rw [q A h1, q B h2]
  exact h j (by omega)
theorem Strs.at_ {w wr : World} {a : Option Addr} {n k : Nat} {ss : List ByteArray} (h : Strs w a n ss) (hb : Below w.heap.size w wr) (hk : k < n) :
    ∃ b off, a = some ⟨b, off, none⟩ ∧ wr.cell? ⟨b, off + k, none⟩ = some (.string (ss.getD k ByteArray.empty)) := by
  obtain ⟨b, off, rfl, hc⟩ := (h.below hb).2 (by omega)
  exact ⟨b, off, rfl, hc k hk⟩

set_option maxHeartbeats 1000000 in
theorem qmay_any (n : Nat) (_hn : n ≤ 9223372036854775807) (w : World) :
    Calls Tryz.prog 64 #[.int .i64 (n : Int)] w fun e w' => e = .returned (.bool (decide (mayN n))) ∧ w = w' := by
  obtain ⟨R, hR⟩ : ∃ R, decide (mayN n) = R := ⟨_, rfl⟩
  have HR := Lib.hid hR
  rw [hR]
  clear hR
  go_enter Tryz.func64, Tryz.ntmps64
  go_wp2_with fail
  go_loopw [3] (fun x wr => ∃ j k : Nat, j ≤ 8 ∧ k = 2 ^ j ∧ x = .int .i64 (k : Int) ∧ (∀ i, i < j → n ≠ 2 ^ i) ∧ w = wr) (fun x _ => 256 - (intOf x).toNat)
  case atStart => exact ⟨0, 1, by omega, rfl, rfl, fun i hi => by omega, rfl⟩
  case round =>
    obtain ⟨j, k, hj, hk, rfl, hno, rfl⟩ := hrel
    have HN := Lib.hid hno
    clear hno
    have hk256 : k ≤ 256 := by rw [hk]; exact Nat.pow_le_pow_right (by omega : 0 < 2) hj
    have hk1 : 1 ≤ k := by rw [hk]; exact Nat.pow_pos (by omega)
    by_cases h8 : j = 8
    · have hk2 : k = 256 := by rw [hk, h8]
      have hf : R = false := by
        rw [← HR.out]
        apply decide_eq_false
        rintro ⟨h, h7, e⟩
        exact HN.out h (by omega) e
      subst hf hk2
      clear hk h8
      go_wp2_with fail
      go_ret
      exact ⟨rfl, rfl⟩
    · have hj7 : j ≤ 7 := by omega
      have hk128 : k ≤ 128 := by rw [hk]; exact Nat.pow_le_pow_right (by omega : 0 < 2) hj7
      have hki : (k : Int) ≤ 128 := by omega
      by_cases hnk : n = k
      · have ht : R = true := by rw [← HR.out]; exact decide_eq_true ⟨j, hj7, by rw [hnk, hk]⟩
        subst ht hnk
        clear hk h8
        go_wp2_with fail
        go_ret
        exact ⟨rfl, rfl⟩
      · have hnki : ¬ (n : Int) = (k : Int) := by omega
        have HN2 := Lib.hid (show ∀ i, i < j + 1 → n ≠ 2 ^ i from fun i hi => by
          rcases Nat.lt_or_ge i j with h | h
          · exact HN.out i h
          · obtain rfl : i = j := by omega
            rw [← hk]; exact hnk)
        obtain ⟨m, hm⟩ : ∃ m, 2 * k = m := ⟨_, rfl⟩
        have hm2 := Lib.hid (show m = 2 ^ (j + 1) from by rw [← hm, hk, Nat.pow_succ]; omega)
        have hmi : 2 * (k : Int) = (m : Int) := by omega
        have hmw : IntKind.i64.wrap (m : Int) = (m : Int) := by rw [IntKind.wrap_i64]; omega
        clear hk h8 hnk hm
        go_wp2_with fail
        go_roundw
        case rel => exact ⟨j + 1, m, by omega, hm2.out, rfl, HN2.out, by first | rfl | trivial⟩
        case measure => simp [intOf]; omega
end Go.Proofs.YtnbaoihamjdjdaaGreatDoor.Sp
