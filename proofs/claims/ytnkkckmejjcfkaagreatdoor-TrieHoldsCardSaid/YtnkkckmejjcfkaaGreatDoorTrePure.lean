/- Plain hash trees over texts: roots, paths, climbs, their inputs, and what follows of them. -/
import Derived.Test.YtnkkckmejjcfkaaGreatDoorGzD
namespace Go.Proofs.YtnkkckmejjcfkaaGreatDoor.Sp
open Go
set_option maxRecDepth 100000

def nodeB (a b : ByteArray) : ByteArray := ⟨(sum (inB 5 [a, b])).toArray⟩
def inpB (a b : ByteArray) : ByteArray := ⟨(inB 5 [a, b]).toArray⟩
def sumT (t : ByteArray) : ByteArray := ⟨(sum t.data.toList).toArray⟩
theorem node_sum (a b : ByteArray) : nodeB a b = sumT (inpB a b) := rfl
/-- The level above one. -/
def aboveB : List ByteArray → List ByteArray
  | a :: b :: l => nodeB a b :: aboveB l
  | _ => []
/-- The inputs of a level's nodes. -/
def pairsB : List ByteArray → List ByteArray
  | a :: b :: l => inpB a b :: pairsB l
  | _ => []
/-- So many levels up. -/
def upB : Nat → List ByteArray → List ByteArray
  | 0, l => l
  | h + 1, l => upB h (aboveB l)
def inputsUp : Nat → List ByteArray → List ByteArray
  | 0, _ => []
  | h + 1, l => pairsB l ++ inputsUp h (aboveB l)
/-- A pair's other one. -/
def sib (i : Nat) : Nat := if i % 2 = 0 then i + 1 else i - 1
def pathUp : Nat → List ByteArray → Nat → List ByteArray
  | 0, _, _ => []
  | h + 1, l, i => l.getD (sib i) .empty :: pathUp h (aboveB l) (i / 2)
def climbB (x : ByteArray) (i : Nat) : List ByteArray → ByteArray
  | [] => x
  | p :: ps => climbB (if i % 2 = 0 then nodeB x p else nodeB p x) (i / 2) ps
def climbedB (x : ByteArray) (i : Nat) : List ByteArray → List ByteArray
  | [] => []
  | p :: ps => (if i % 2 = 0 then inpB x p else inpB p x) :: climbedB (if i % 2 = 0 then nodeB x p else nodeB p x) (i / 2) ps

theorem nodeB_size (a b : ByteArray) : (nodeB a b).size = 32 := by rw [← size_list]; exact encode_length _
theorem inpB_inj (a b c d : ByteArray) (ha : a.size < 4294967296) (hb : b.size < 4294967296) (hc : c.size < 4294967296) (hd : d.size < 4294967296) (h : inpB a b = inpB c d) : a = c ∧ b = d := by
  have h1 : inB 5 [a, b] = inB 5 [c, d] := by
    have := congrArg (fun t : ByteArray => t.data.toList) h
    exact this
  have h2 := (inB_inj 5 5 [a, b] [c, d] (by intro s hs; simp at hs; rcases hs with rfl | rfl <;> assumption) (by intro s hs; simp at hs; rcases hs with rfl | rfl <;> assumption) h1).2
  simp only [List.cons.injEq, and_true] at h2
  exact h2
theorem above_len : ∀ l : List ByteArray, (aboveB l).length = l.length / 2
  | [] => rfl
  | [_] => by simp [aboveB]
  | a :: b :: l => by rw [aboveB, List.length_cons, above_len l, List.length_cons, List.length_cons]; omega
theorem pairs_len : ∀ l : List ByteArray, (pairsB l).length = l.length / 2
  | [] => rfl
  | [_] => by simp [pairsB]
  | a :: b :: l => by rw [pairsB, List.length_cons, pairs_len l, List.length_cons, List.length_cons]; omega
theorem above_get : ∀ (l : List ByteArray) (k : Nat), 2 * k + 1 < l.length → (aboveB l).getD k .empty = nodeB (l.getD (2 * k) .empty) (l.getD (2 * k + 1) .empty)
  | [], k, h => by simp at h
  | [_], k, h => by simp at h
  | a :: b :: l, 0, _ => rfl
  | a :: b :: l, k + 1, h => by
    simp only [List.length_cons] at h
    rw [aboveB, List.getD_cons_succ, above_get l k (by omega), show 2 * (k + 1) = 2 * k + 1 + 1 by omega]
    rfl
theorem pairs_get : ∀ (l : List ByteArray) (k : Nat), 2 * k + 1 < l.length → (pairsB l).getD k .empty = inpB (l.getD (2 * k) .empty) (l.getD (2 * k + 1) .empty)
  | [], k, h => by simp at h
  | [_], k, h => by simp at h
  | a :: b :: l, 0, _ => rfl
  | a :: b :: l, k + 1, h => by
    simp only [List.length_cons] at h
    rw [pairsB, List.getD_cons_succ, pairs_get l k (by omega), show 2 * (k + 1) = 2 * k + 1 + 1 by omega]
    rfl
theorem above_size : ∀ (l : List ByteArray), ∀ x ∈ aboveB l, x.size = 32
  | [], x, h => by simp [aboveB] at h
  | [_], x, h => by simp [aboveB] at h
  | a :: b :: l, x, h => by
    rw [aboveB] at h
    rcases List.mem_cons.1 h with rfl | h
    · exact nodeB_size a b
    · exact above_size l x h
theorem getD_mem_ (l : List ByteArray) (k : Nat) (h : k < l.length) : l.getD k .empty ∈ l := by
  rw [List.getD_eq_getElem?_getD, List.getElem?_eq_getElem h]; exact List.getElem_mem h
/-- A pair in order: the one at an even place first. -/
theorem pair_of (l : List ByteArray) (i : Nat) (hi : i < l.length) (he : l.length % 2 = 0) :
    (aboveB l).getD (i / 2) .empty = (if i % 2 = 0 then nodeB (l.getD i .empty) (l.getD (sib i) .empty) else nodeB (l.getD (sib i) .empty) (l.getD i .empty)) ∧
    (pairsB l).getD (i / 2) .empty = (if i % 2 = 0 then inpB (l.getD i .empty) (l.getD (sib i) .empty) else inpB (l.getD (sib i) .empty) (l.getD i .empty)) ∧ sib i < l.length := by
  rcases Nat.mod_two_eq_zero_or_one i with h | h
  · rw [above_get l (i / 2) (by omega), pairs_get l (i / 2) (by omega), if_pos h, if_pos h, sib, if_pos h, show 2 * (i / 2) = i by omega]
    exact ⟨rfl, rfl, by omega⟩
  · rw [above_get l (i / 2) (by omega), pairs_get l (i / 2) (by omega), if_neg (by omega), if_neg (by omega), sib, if_neg (by omega), show 2 * (i / 2) = i - 1 by omega, show i - 1 + 1 = i by omega]
    exact ⟨rfl, rfl, by omega⟩
theorem pow_half (n h : Nat) (e : n = 2 ^ (h + 1)) : n % 2 = 0 ∧ n / 2 = 2 ^ h := by rw [Nat.pow_succ] at e; omega

/-- Climb of a leaf and its path is the root. -/
theorem climb_path : ∀ (h : Nat) (l : List ByteArray) (i : Nat), l.length = 2 ^ h → i < l.length → climbB (l.getD i .empty) i (pathUp h l i) = (upB h l).getD 0 .empty
  | 0, l, i, hl, hi => by
    have : i = 0 := by rw [hl] at hi; simp at hi; exact hi
    rw [this]; rfl
  | h + 1, l, i, hl, hi => by
    obtain ⟨h1, h2⟩ := pow_half _ _ hl
    have e := (pair_of l i hi h1).1
    rw [pathUp, climbB, ← e]
    exact climb_path h (aboveB l) (i / 2) (by rw [above_len, h2]) (by rw [above_len]; omega)
/-- Two unlike texts have one sum. -/
def ClashIn (l : List ByteArray) : Prop := ∃ u v, u ∈ l ∧ v ∈ l ∧ u ≠ v ∧ sumT u = sumT v
theorem ClashIn.mono {l m : List ByteArray} (h : ClashIn l) (hs : ∀ x ∈ l, x ∈ m) : ClashIn m := by
  obtain ⟨u, v, h1, h2, h3, h4⟩ := h
  exact ⟨u, v, hs _ h1, hs _ h2, h3, h4⟩
/-- What climbs to the root is the leaf there, and its path is the leaf's; or there is a clash. -/
theorem sound_up : ∀ (h : Nat) (l : List ByteArray) (i : Nat) (x : ByteArray) (p : List ByteArray), l.length = 2 ^ h → i < l.length → p.length = h → x.size = 32 → (∀ y ∈ l, y.size = 32) → (∀ y ∈ p, y.size = 32) →
    climbB x i p = (upB h l).getD 0 .empty → (x = l.getD i .empty ∧ p = pathUp h l i) ∨ ClashIn (inputsUp h l ++ climbedB x i p)
  | 0, l, i, x, p, hl, hi, hp, _, _, _, e => by
    have hi0 : i = 0 := by rw [hl] at hi; simp at hi; exact hi
    have hp0 : p = [] := List.length_eq_zero_iff.1 hp
    subst hi0 hp0
    exact .inl ⟨e, rfl⟩
  | h + 1, l, i, x, [], _, _, hp, _, _, _, _ => by simp at hp
  | h + 1, l, i, x, q :: ps, hl, hi, hp, hx, hs, hps, e => by
    obtain ⟨h1, h2⟩ := pow_half _ _ hl
    obtain ⟨e1, e2, e3⟩ := pair_of l i hi h1
    obtain ⟨y, hy⟩ : ∃ y, (if i % 2 = 0 then nodeB x q else nodeB q x) = y := ⟨_, rfl⟩
    obtain ⟨t, ht⟩ : ∃ t, (if i % 2 = 0 then inpB x q else inpB q x) = t := ⟨_, rfl⟩
    have hyt : y = sumT t := by rw [← hy, ← ht]; split <;> rfl
    have hy32 : y.size = 32 := by rw [← hy]; split <;> exact nodeB_size _ _
    have hq32 : q.size = 32 := hps q (List.mem_cons_self ..)
    have hl32 := hs _ (getD_mem_ l i hi)
    have hm32 := hs _ (getD_mem_ l (sib i) e3)
    rw [climbB, hy] at e
    rw [climbedB, hy, ht]
    rcases sound_up h (aboveB l) (i / 2) y ps (by rw [above_len, h2]) (by rw [above_len]; omega) (by simpa using hp) hy32 (above_size l) (fun z hz => hps z (List.mem_cons_of_mem _ hz)) e with ⟨g1, g2⟩ | g
    · have hin : (pairsB l).getD (i / 2) .empty ∈ pairsB l := getD_mem_ _ _ (by rw [pairs_len]; omega)
      by_cases hu : t = (pairsB l).getD (i / 2) .empty
      · left
        rw [e2, ← ht] at hu
        rw [pathUp, ← g2]
        split at hu
        · obtain ⟨a1, a2⟩ := inpB_inj _ _ _ _ (by omega) (by omega) (by omega) (by omega) hu
          exact ⟨a1, by rw [a2]⟩
        · obtain ⟨a1, a2⟩ := inpB_inj _ _ _ _ (by omega) (by omega) (by omega) (by omega) hu
          exact ⟨a2, by rw [a1]⟩
      · right
        refine ⟨t, _, List.mem_append_right _ (List.mem_cons_self ..), List.mem_append_left _ (List.mem_append_left _ hin), hu, ?_⟩
        rw [← hyt, g1, e1, e2]
        split <;> rfl
    · right
      refine g.mono fun z hz => ?_
      rcases List.mem_append.1 hz with hz | hz
      · exact List.mem_append_left _ (List.mem_append_right _ hz)
      · exact List.mem_append_right _ (List.mem_cons_of_mem _ hz)
/-- Of unlike leaves, as many, the roots are unlike; or there is a clash. -/
theorem above_inj : ∀ (a b : List ByteArray), a.length = b.length → a.length % 2 = 0 → (∀ y ∈ a, y.size = 32) → (∀ y ∈ b, y.size = 32) → aboveB a = aboveB b → a = b ∨ ClashIn (pairsB a ++ pairsB b)
  | [], [], _, _, _, _, _ => .inl rfl
  | [], _ :: _, h, _, _, _, _ => by simp at h
  | [_], _, _, h, _, _, _ => by simp at h
  | _ :: _ :: _, [], h, _, _, _, _ => by simp at h
  | _ :: _ :: _, [_], h, _, _, _, _ => by simp at h
  | a :: b :: l, c :: d :: m, h, h2, h3, h4, e => by
    rw [aboveB, aboveB] at e
    injection e with e1 e2
    rcases above_inj l m (by simpa using h) (by simp only [List.length_cons] at h2; omega) (fun y hy => h3 y (List.mem_cons_of_mem _ (List.mem_cons_of_mem _ hy))) (fun y hy => h4 y (List.mem_cons_of_mem _ (List.mem_cons_of_mem _ hy))) e2 with g | g
    · by_cases hu : inpB a b = inpB c d
      · left
        have z1 := h3 a (by simp)
        have z2 := h3 b (by simp)
        have z3 := h4 c (by simp)
        have z4 := h4 d (by simp)
        obtain ⟨a1, a2⟩ := inpB_inj _ _ _ _ (by omega) (by omega) (by omega) (by omega) hu
        rw [a1, a2, g]
      · exact .inr ⟨_, _, List.mem_append_left _ (by rw [pairsB]; exact List.mem_cons_self ..), List.mem_append_right _ (by rw [pairsB]; exact List.mem_cons_self ..), hu, e1⟩
    · right
      refine g.mono fun z hz => ?_
      rw [pairsB, pairsB]
      rcases List.mem_append.1 hz with hz | hz
      · exact List.mem_append_left _ (List.mem_cons_of_mem _ hz)
      · exact List.mem_append_right _ (List.mem_cons_of_mem _ hz)
theorem roots_up : ∀ (h : Nat) (a b : List ByteArray), a.length = 2 ^ h → b.length = 2 ^ h → (∀ y ∈ a, y.size = 32) → (∀ y ∈ b, y.size = 32) →
    (upB h a).getD 0 .empty = (upB h b).getD 0 .empty → a = b ∨ ClashIn (inputsUp h a ++ inputsUp h b)
  | 0, a, b, ha, hb, _, _, e => by
    obtain ⟨x, rfl⟩ := List.length_eq_one_iff.1 ha
    obtain ⟨y, rfl⟩ := List.length_eq_one_iff.1 hb
    left
    have e' : x = y := e
    rw [e']
  | h + 1, a, b, ha, hb, h3, h4, e => by
    obtain ⟨h1, h2⟩ := pow_half _ _ ha
    obtain ⟨_, h2'⟩ := pow_half _ _ hb
    rcases roots_up h (aboveB a) (aboveB b) (by rw [above_len, h2]) (by rw [above_len, h2']) (above_size a) (above_size b) e with g | g
    · rcases above_inj a b (by rw [ha, hb]) h1 h3 h4 g with g | g
      · exact .inl g
      · right
        refine g.mono fun z hz => ?_
        rcases List.mem_append.1 hz with hz | hz
        · exact List.mem_append_left _ (List.mem_append_left _ hz)
        · exact List.mem_append_right _ (List.mem_append_left _ hz)
    · right
      refine g.mono fun z hz => ?_
      rcases List.mem_append.1 hz with hz | hz
      · exact List.mem_append_left _ (List.mem_append_right _ hz)
      · exact List.mem_append_right _ (List.mem_append_right _ hz)

theorem inputs_len : ∀ (h : Nat) (l : List ByteArray), l.length = 2 ^ h → (inputsUp h l).length = 2 ^ h - 1
  | 0, _, _ => rfl
  | h + 1, l, hl => by
    obtain ⟨_, h2⟩ := pow_half _ _ hl
    rw [inputsUp, List.length_append, pairs_len, h2, inputs_len h (aboveB l) (by rw [above_len, h2])]
    have : 0 < 2 ^ h := Nat.pow_pos (by omega)
    rw [Nat.pow_succ]; omega
theorem up_len : ∀ (h : Nat) (l : List ByteArray), l.length = 2 ^ h → (upB h l).length = 1
  | 0, _, hl => hl
  | h + 1, l, hl => by rw [upB]; exact up_len h (aboveB l) (by rw [above_len, (pow_half _ _ hl).2])
theorem path_len : ∀ (h : Nat) (l : List ByteArray) (i : Nat), (pathUp h l i).length = h
  | 0, _, _ => rfl
  | h + 1, l, i => by rw [pathUp, List.length_cons, path_len h]
theorem climbed_len : ∀ (p : List ByteArray) (x : ByteArray) (i : Nat), (climbedB x i p).length = p.length
  | [], _, _ => rfl
  | q :: ps, x, i => by rw [climbedB, List.length_cons, climbed_len ps, List.length_cons]
/-- The last of the inputs has the root as its sum. -/
theorem inputs_last : ∀ (h : Nat) (l : List ByteArray), l.length = 2 ^ (h + 1) → sumT ((inputsUp (h + 1) l).getLastD .empty) = (upB (h + 1) l).getD 0 .empty
  | 0, l, hl => by
    match l, hl with
    | [a, b], _ => rfl
  | h + 1, l, hl => by
    obtain ⟨_, h2⟩ := pow_half _ _ hl
    have e := inputs_last h (aboveB l) (by rw [above_len, h2])
    have n := inputs_len (h + 1) (aboveB l) (by rw [above_len, h2])
    have p : 2 ≤ 2 ^ (h + 1) := by rw [Nat.pow_succ]; have : 0 < 2 ^ h := Nat.pow_pos (by omega); omega
    rw [inputsUp, upB, ← e]
    congr 1
    have hne : inputsUp (h + 1) (aboveB l) ≠ [] := by intro hx; rw [hx] at n; simp at n; omega
    rw [List.getLastD_eq_getLast?, List.getLastD_eq_getLast?, List.getLast?_append]
    rw [List.getLast?_eq_some_getLast hne]; rfl
theorem climbed_last : ∀ (p : List ByteArray) (x : ByteArray) (i : Nat), p ≠ [] → sumT ((climbedB x i p).getLastD .empty) = climbB x i p
  | [], _, _, h => absurd rfl h
  | [q], x, i, _ => by
    rw [climbedB, climbedB, climbB, climbB]
    show sumT (if i % 2 = 0 then _ else _) = _
    split <;> rfl
  | q :: r :: ps, x, i, _ => by
    have e := climbed_last (r :: ps) (if i % 2 = 0 then nodeB x q else nodeB q x) (i / 2) (by simp)
    rw [climbedB, climbB, ← e]
    rfl
/-- Halves. -/
theorem above_app : ∀ (a b : List ByteArray), a.length % 2 = 0 → aboveB (a ++ b) = aboveB a ++ aboveB b
  | [], _, _ => rfl
  | [_], _, h => by simp at h
  | x :: y :: l, b, h => by
    rw [List.cons_append, List.cons_append, aboveB, aboveB, above_app l b (by simp only [List.length_cons] at h; omega)]; rfl
theorem halves_up : ∀ (h : Nat) (a b : List ByteArray), a.length = 2 ^ h → b.length = 2 ^ h → (upB (h + 1) (a ++ b)).getD 0 .empty = nodeB ((upB h a).getD 0 .empty) ((upB h b).getD 0 .empty)
  | 0, a, b, ha, hb => by
    obtain ⟨x, rfl⟩ := List.length_eq_one_iff.1 ha
    obtain ⟨y, rfl⟩ := List.length_eq_one_iff.1 hb
    rfl
  | h + 1, a, b, ha, hb => by
    obtain ⟨h1, h2⟩ := pow_half _ _ ha
    obtain ⟨_, h2'⟩ := pow_half _ _ hb
    rw [upB, above_app a b h1, halves_up h (aboveB a) (aboveB b) (by rw [above_len, h2]) (by rw [above_len, h2'])]
    rfl
/-- The last text of a path is the other half's root. -/
theorem path_other : ∀ (h : Nat) (a b : List ByteArray) (i : Nat), a.length = 2 ^ h → b.length = 2 ^ h → i < 2 ^ (h + 1) →
    (pathUp (h + 1) (a ++ b) i).getLastD .empty = (if 2 ^ h ≤ i then (upB h a).getD 0 .empty else (upB h b).getD 0 .empty)
  | 0, a, b, i, ha, hb, hi => by
    obtain ⟨x, rfl⟩ := List.length_eq_one_iff.1 ha
    obtain ⟨y, rfl⟩ := List.length_eq_one_iff.1 hb
    rcases (show i = 0 ∨ i = 1 by simp at hi; omega) with rfl | rfl <;> rfl
  | h + 1, a, b, i, ha, hb, hi => by
    obtain ⟨h1, h2⟩ := pow_half _ _ ha
    obtain ⟨_, h2'⟩ := pow_half _ _ hb
    have e := path_other h (aboveB a) (aboveB b) (i / 2) (by rw [above_len, h2]) (by rw [above_len, h2']) (by rw [Nat.pow_succ] at hi; omega)
    rw [pathUp, above_app a b h1]
    have hne : pathUp (h + 1) (aboveB a ++ aboveB b) (i / 2) ≠ [] := by intro hx; have := path_len (h + 1) (aboveB a ++ aboveB b) (i / 2); rw [hx] at this; simp at this
    have hc : ((a ++ b).getD (sib i) .empty :: pathUp (h + 1) (aboveB a ++ aboveB b) (i / 2)).getLastD .empty = (pathUp (h + 1) (aboveB a ++ aboveB b) (i / 2)).getLastD .empty := by
      obtain ⟨z, zs, hz⟩ := List.exists_cons_of_ne_nil hne
      rw [hz]; rfl
    rw [hc, e]
    have : (2 ^ h ≤ i / 2) ↔ (2 ^ (h + 1) ≤ i) := by rw [Nat.pow_succ]; omega
    simp only [this]
    rfl
/-- Of two leaves side by side the paths are the same behind their first. -/
theorem path_sib (h : Nat) (l : List ByteArray) (i : Nat) : (pathUp (h + 1) l i).drop 1 = (pathUp (h + 1) l (sib i)).drop 1 := by
  have e : i / 2 = sib i / 2 := by unfold sib; split <;> omega
  rw [pathUp, pathUp, ← e]; rfl
theorem sib_sib (i : Nat) : sib (sib i) = i := by unfold sib; split <;> split <;> omega
end Go.Proofs.YtnkkckmejjcfkaaGreatDoor.Sp
