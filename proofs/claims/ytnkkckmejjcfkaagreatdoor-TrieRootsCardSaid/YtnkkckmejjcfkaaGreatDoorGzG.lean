/- Plain tries: what is set, deleted and got, proofs as they stand, and what the chapter's theorem says of them. No program is named here. -/
import Derived.Test.YtnkkckmejjcfkaaGreatDoorTriPure
import Derived.Test.YtnkkckmejjcfkaaGreatDoorGzA
import Derived.Test.YtnkkckmejjcfkaaGreatDoorGzD
namespace Go.Proofs.YtnkkckmejjcfkaaGreatDoor.Sp
open Go

def delF (l : List Ent) (p : ByteArray) : List Ent := l.filter fun e => !decide (e.1 = p)
def setF (l : List Ent) (p v : ByteArray) : List Ent := (p, v) :: delF l p
def getF (l : List Ent) (p : ByteArray) : Option ByteArray := (l.find? fun e => decide (e.1 = p)).map Prod.snd
/-- Entries as a trie holds them. -/
abbrev FitT (l : List Ent) : Prop := Fit 256 0 l
theorem del_mem {l : List Ent} {p : ByteArray} {e : Ent} : e ∈ delF l p ↔ e ∈ l ∧ e.1 ≠ p := by
  unfold delF; rw [List.mem_filter]; simp
theorem fitT_nil : FitT [] := ⟨rfl, (fun e h => by cases h), (fun e h => by cases h), List.nodup_nil⟩
theorem FitT.del {l : List Ent} (h : FitT l) (p : ByteArray) : FitT (delF l p) where
  len := rfl
  size := fun e he => h.size e (del_mem.1 he).1
  agree := fun e he f hf k hk => absurd hk (Nat.not_lt_zero k)
  nodup := by
    have hs : ((delF l p).map Prod.fst).Sublist (l.map Prod.fst) := List.Sublist.map _ List.filter_sublist
    exact hs.nodup h.nodup
theorem FitT.set {l : List Ent} (h : FitT l) (p v : ByteArray) (hp : p.size = 32) : FitT (setF l p v) where
  len := rfl
  size := fun e he => by
    rcases List.mem_cons.1 he with rfl | he
    · exact hp
    · exact (h.del p).size e he
  agree := fun e he f hf k hk => absurd hk (Nat.not_lt_zero k)
  nodup := by
    rw [setF, List.map_cons, List.nodup_cons]
    refine ⟨fun hm => ?_, (h.del p).nodup⟩
    obtain ⟨e, he, hep⟩ := List.mem_map.1 hm
    exact (del_mem.1 he).2 hep
theorem FitT.perm {l m : List Ent} (h : FitT l) (hm : l.Perm m) : FitT m where
  len := rfl
  size := fun e he => h.size e (hm.mem_iff.2 he)
  agree := fun _e _he _f _hf k hk => absurd hk (Nat.not_lt_zero k)
  nodup := (hm.map Prod.fst).nodup_iff.1 h.nodup
theorem get_some {l : List Ent} (h : FitT l) {p v : ByteArray} : getF l p = some v ↔ (p, v) ∈ l := by
  unfold getF
  constructor
  · intro e
    rw [Option.map_eq_some_iff] at e
    obtain ⟨x, h1, h2⟩ := e
    have h3 := List.mem_of_find?_eq_some h1
    have h4 := List.find?_some h1
    have h5 : x.1 = p := of_decide_eq_true h4
    rw [← h5, ← h2]; exact h3
  · intro hm
    cases hf : l.find? fun e => decide (e.1 = p) with
    | none =>
      rw [List.find?_eq_none] at hf
      exact absurd (decide_eq_true rfl) (hf _ hm)
    | some x =>
      have h3 := List.mem_of_find?_eq_some hf
      have h4 := List.find?_some hf
      have h5 : x.1 = p := of_decide_eq_true h4
      have h6 : (p, x.2) ∈ l := by rw [← h5]; exact h3
      rw [Option.map_some, h.val h6 hm]
theorem get_none {l : List Ent} {p : ByteArray} : getF l p = none ↔ ∀ v, (p, v) ∉ l := by
  unfold getF
  rw [Option.map_eq_none_iff, List.find?_eq_none]
  constructor
  · intro h v hv
    exact h _ hv (decide_eq_true rfl)
  · intro h x hx hd
    have h5 : x.1 = p := of_decide_eq_true hd
    exact h x.2 (by rw [← h5]; exact hx)
theorem get_perm {l m : List Ent} (h : FitT l) (hm : l.Perm m) (p : ByteArray) : getF l p = getF m p := by
  cases e : getF m p with
  | none =>
    rw [get_none] at e ⊢
    exact fun v hv => e v (hm.mem_iff.1 hv)
  | some v =>
    rw [get_some (h.perm hm)] at e
    rw [get_some h]
    exact hm.mem_iff.2 e
theorem get_del {l : List Ent} (h : FitT l) (p q : ByteArray) : getF (delF l p) q = if q = p then none else getF l q := by
  by_cases e : q = p
  · rw [if_pos e, get_none]
    exact fun v hv => (del_mem.1 hv).2 e
  · rw [if_neg e]
    cases g : getF l q with
    | none =>
      rw [get_none] at g ⊢
      exact fun v hv => g v (del_mem.1 hv).1
    | some v =>
      rw [get_some h] at g
      rw [get_some (h.del p)]
      exact del_mem.2 ⟨g, e⟩
theorem get_set {l : List Ent} (h : FitT l) (p v q : ByteArray) (hp : p.size = 32) : getF (setF l p v) q = if q = p then some v else getF l q := by
  by_cases e : q = p
  · rw [if_pos e, get_some (h.set p v hp), e]
    exact List.mem_cons_self
  · rw [if_neg e, ← (get_del h p q).trans (if_neg e)]
    cases g : getF (delF l p) q with
    | none =>
      rw [get_none] at g ⊢
      intro w hw
      rcases List.mem_cons.1 hw with h1 | h1
      · exact e (Prod.mk.inj h1).1
      · exact g w h1
    | some w =>
      rw [get_some (h.del p)] at g
      rw [get_some (h.set p v hp)]
      exact List.mem_cons_of_mem _ g
theorem nodup_of : ∀ l : List Ent, (l.map Prod.fst).Nodup → l.Nodup
  | [], _ => List.nodup_nil
  | e :: l, h => by
    rw [List.map_cons, List.nodup_cons] at h
    exact List.nodup_cons.2 ⟨fun he => h.1 (List.mem_map_of_mem he), nodup_of l h.2⟩
/-- Of the same answers: the same entries. -/
theorem perm_of_get {l m : List Ent} (hl : FitT l) (hm : FitT m) (h : ∀ p, getF l p = getF m p) : l.Perm m := by
  have n1 : l.Nodup := nodup_of _ hl.nodup
  have n2 : m.Nodup := nodup_of _ hm.nodup
  rw [List.perm_ext_iff_of_nodup n1 n2]
  intro e
  rw [show e = (e.1, e.2) from rfl, ← get_some hl, ← get_some hm, h]

def rootF (l : List Ent) : ByteArray := hashF 256 0 l
/-- A proof as it stands. -/
structure Prf where
  beside : List ByteArray
  leaf : Bool
  path : ByteArray
  value : ByteArray
def prfOf (r : List ByteArray × Option Ent) : Prf := ⟨r.1, r.2.isSome, (r.2.map Prod.fst).getD .empty, (r.2.map Prod.snd).getD .empty⟩
def proofF (l : List Ent) (p : ByteArray) : Prf := prfOf (proveF 256 0 l p)
/-- What a proof's way ends at. -/
def Prf.end (q : Prf) : Option Ent := if q.leaf then some (q.path, q.value) else none
def rightB (l : List ByteArray) : Bool := decide (l.length ≤ 256) && l.all fun x => decide (x.size = 32)
def hasB (root p v : ByteArray) (q : Prf) : Bool := rightB q.beside && q.leaf && decide (q.path = p) && decide (q.value = v) && decide (upF p 0 (leafB p v) q.beside = root)
def beginsB (a b : ByteArray) (n : Nat) : Bool := (List.range n).all fun k => decide (bitN a k = bitN b k)
def lacksB (root p : ByteArray) (q : Prf) : Bool :=
  rightB q.beside && (if q.leaf then decide (q.path.size = 32) && !decide (q.path = p) && beginsB q.path p q.beside.length else decide (q.path = .empty) && decide (q.value = .empty)) &&
    decide (upF p 0 (endH q.end) q.beside = root)
theorem right_iff {l : List ByteArray} : rightB l = true ↔ l.length ≤ 256 ∧ ∀ x ∈ l, x.size = 32 := by
  unfold rightB; rw [Bool.and_eq_true, decide_eq_true_iff, List.all_eq_true]
  simp
theorem begins_iff {a b : ByteArray} {n : Nat} : beginsB a b n = true ↔ ∀ k, k < n → bitN a k = bitN b k := by
  unfold beginsB; rw [List.all_eq_true]
  simp
theorem has_iff {root p v : ByteArray} {q : Prf} : hasB root p v q = true ↔ rightB q.beside = true ∧ q.leaf = true ∧ q.path = p ∧ q.value = v ∧ upF p 0 (leafB p v) q.beside = root := by
  unfold hasB; simp only [Bool.and_eq_true, decide_eq_true_iff, and_assoc]
theorem lacks_iff {root p : ByteArray} {q : Prf} : lacksB root p q = true ↔ rightB q.beside = true ∧
    (if q.leaf then q.path.size = 32 ∧ q.path ≠ p ∧ ∀ k, k < q.beside.length → bitN q.path k = bitN p k else q.path = .empty ∧ q.value = .empty) ∧ upF p 0 (endH q.end) q.beside = root := by
  unfold lacksB
  cases q.leaf
  · simp [and_assoc]
  · simp [and_assoc, begins_iff]
theorem proof_right {l : List Ent} (h : FitT l) (p : ByteArray) : rightB (proofF l p).beside = true := by
  obtain ⟨h1, h2, _, _⟩ := prove_end 256 0 l p h
  exact right_iff.2 ⟨h1, h2⟩
/-- What Prove shows is held by Has with the value there is. -/
theorem proof_has {l : List Ent} (h : FitT l) {p v : ByteArray} (hv : getF l p = some v) : hasB (rootF l) p v (proofF l p) = true ∧ lacksB (rootF l) p (proofF l p) = false := by
  have hm := (get_some h).1 hv
  obtain ⟨_, _, _, h4⟩ := prove_end 256 0 l p h
  have e := h4 v hm
  have hu := up_prove 256 0 l p h
  rw [e] at hu
  constructor
  · rw [has_iff]
    unfold proofF prfOf
    rw [e]
    have := proof_right h p
    unfold proofF prfOf at this
    exact ⟨this, rfl, rfl, rfl, hu⟩
  · rw [← Bool.not_eq_true, lacks_iff]
    unfold proofF prfOf
    rw [e]
    rintro ⟨_, h6, _⟩
    simp at h6
/-- .. by Lacks if there is none. -/
theorem proof_lacks {l : List Ent} (h : FitT l) {p : ByteArray} (hv : getF l p = none) : lacksB (rootF l) p (proofF l p) = true ∧ ∀ v, hasB (rootF l) p v (proofF l p) = false := by
  rw [get_none] at hv
  obtain ⟨h1, h2, h3, _⟩ := prove_end 256 0 l p h
  have hu := up_prove 256 0 l p h
  have hr := proof_right h p
  unfold proofF prfOf at hr ⊢
  cases e : (proveF 256 0 l p).2 with
  | none =>
    rw [e] at hu hr
    refine ⟨?_, fun v => ?_⟩
    · rw [lacks_iff]
      refine ⟨hr, ?_, ?_⟩
      · simp
      · exact hu
    · rw [← Bool.not_eq_true, has_iff]
      rintro ⟨_, h5, _⟩
      simp at h5
  | some x =>
    rw [e] at hu hr
    obtain ⟨m1, m2⟩ := h3 x e
    have hx : x.1 ≠ p := fun hp => hv x.2 (by rw [← hp]; exact m1)
    refine ⟨?_, fun v => ?_⟩
    · rw [lacks_iff]
      refine ⟨hr, ?_, ?_⟩
      · simp only [Option.isSome_some, if_true, Option.map_some, Option.getD_some]
        exact ⟨h.size x m1, hx, fun k hk => m2 k (Nat.zero_le _) (by omega)⟩
      · exact hu
    · rw [← Bool.not_eq_true, has_iff]
      rintro ⟨_, _, h5, _⟩
      exact hx h5
theorem proof_other {l : List Ent} (h : FitT l) {p v w : ByteArray} (hv : getF l p = some v) (hw : w ≠ v) : hasB (rootF l) p w (proofF l p) = false := by
  have hm := (get_some h).1 hv
  obtain ⟨_, _, _, h4⟩ := prove_end 256 0 l p h
  have e := h4 v hm
  rw [← Bool.not_eq_true, has_iff]
  unfold proofF prfOf
  rw [e]
  rintro ⟨_, _, _, h6, _⟩
  exact hw h6.symm
/-- The inputs that a proof takes, but for its path's. -/
def provedF (p : ByteArray) (q : Prf) : List ByteArray := endIn q.end :: upIn p 0 (endH q.end) q.beside
/-- What Has or Lacks holds is so, or there is a clash. -/
theorem has_sound {l : List Ent} (h : FitT l) {p v : ByteArray} (hp : p.size = 32) {q : Prf} (hq : hasB (rootF l) p v q = true) : getF l p = some v ∨ ClashIn (inputsF 256 0 l ++ provedF p q) := by
  rw [has_iff] at hq
  obtain ⟨h1, h2, h3, h4, h5⟩ := hq
  have he : q.end = some (p, v) := by rw [Prf.end, if_pos h2, h3, h4]
  rcases sound_tri 256 0 l p q.end q.beside h (fun e hx => by rw [he] at hx; injection hx with hx; rw [← hx]; exact hp) (right_iff.1 h1).2 (by rw [he]; exact h5) with g | g
  · left
    obtain ⟨_, _, k3, _⟩ := prove_end 256 0 l p h
    rw [get_some h]
    exact (k3 (p, v) (by rw [g]; exact he)).1
  · exact .inr g
theorem lacks_sound {l : List Ent} (h : FitT l) {p : ByteArray} {q : Prf} (hq : lacksB (rootF l) p q = true) : getF l p = none ∨ ClashIn (inputsF 256 0 l ++ provedF p q) := by
  rw [lacks_iff] at hq
  obtain ⟨h1, h2, h5⟩ := hq
  rcases sound_tri 256 0 l p q.end q.beside h (fun e hx => by
      cases hl : q.leaf with
      | false => rw [Prf.end, hl] at hx; cases hx
      | true =>
        rw [Prf.end, if_pos hl] at hx
        rw [if_pos hl] at h2
        injection hx with hx; rw [← hx]; exact h2.1) (right_iff.1 h1).2 h5 with g | g
  · left
    obtain ⟨_, _, _, k4⟩ := prove_end 256 0 l p h
    rw [get_none]
    intro v hv
    have e := k4 v hv
    rw [g] at e
    have e' : q.end = some (p, v) := e
    cases hl : q.leaf with
    | false => rw [Prf.end, hl] at e'; cases e'
    | true =>
      rw [Prf.end, if_pos hl] at e'
      rw [if_pos hl] at h2
      injection e' with e'
      exact h2.2.1 (congrArg Prod.fst e')
  · exact .inr g
/-- Of one root: of the same answers; or there is a clash. -/
theorem roots_get {l m : List Ent} (hl : FitT l) (hm : FitT m) (h : rootF l = rootF m) : (∀ p, getF l p = getF m p) ∨ ClashIn (inputsF 256 0 l ++ inputsF 256 0 m) := by
  rcases roots_tri 256 0 l m hl hm h with g | g
  · left
    intro p
    cases e : getF m p with
    | none =>
      rw [get_none] at e ⊢
      exact fun v hv => e v ((g _).1 hv)
    | some v =>
      rw [get_some hm] at e
      rw [get_some hl]
      exact (g _).2 e
  · exact .inr g
theorem root_perm {l m : List Ent} (hl : FitT l) (h : l.Perm m) : rootF l = rootF m := (hash_perm 256 0 l m h hl).1
theorem proof_perm {l m : List Ent} (hl : FitT l) (h : l.Perm m) (p : ByteArray) : proofF l p = proofF m p := by
  unfold proofF; rw [(hash_perm 256 0 l m h hl).2.2 p]
theorem del_perm {l m : List Ent} (h : l.Perm m) (p : ByteArray) : (delF l p).Perm (delF m p) := h.filter _
theorem set_perm {l m : List Ent} (h : l.Perm m) (p v : ByteArray) : (setF l p v).Perm (setF m p v) := (del_perm h p).cons _
/-- What is set and deleted again is gone. -/
theorem set_del {l : List Ent} (p v : ByteArray) (h : getF l p = none) : delF (setF l p v) p = l := by
  rw [get_none] at h
  unfold setF
  have : delF ((p, v) :: delF l p) p = delF (delF l p) p := by
    unfold delF; rw [List.filter_cons]; simp
  rw [this]
  have e : delF l p = l := by
    unfold delF
    rw [List.filter_eq_self]
    intro x hx
    have : x.1 ≠ p := fun hp => h x.2 (by rw [← hp]; exact hx)
    simp [this]
  rw [e, e]
theorem root_nil : rootF [] = nothingB := rfl
theorem root_one (p v : ByteArray) : rootF [(p, v)] = leafB p v := rfl
theorem proof_one (p v q : ByteArray) : proofF [(p, v)] q = ⟨[], true, p, v⟩ := rfl
theorem proof_nil (q : ByteArray) : proofF [] q = ⟨[], false, .empty, .empty⟩ := rfl
theorem proof_beside (l : List Ent) (p : ByteArray) : (proofF l p).beside = [] ↔ l.length < 2 := by
  match l with
  | [] => simp [proof_nil]
  | [e] => simp [show proofF [e] p = ⟨[], true, e.1, e.2⟩ from rfl]
  | e :: f :: l =>
    have : (proofF (e :: f :: l) p).beside ≠ [] := by
      unfold proofF prfOf
      rw [proveF]
      exact List.cons_ne_nil _ _
    simp [this]
end Go.Proofs.YtnkkckmejjcfkaaGreatDoor.Sp

/- What a call may change: the blocks of a foot, and new ones. -/
namespace Go.Proofs.YtnkkckmejjcfkaaGreatDoor.Sp
open Go Go.RowKit
set_option maxRecDepth 100000

/-- Of what there was nothing but the blocks of F may have changed. -/
structure Turned (F : Nat → Prop) (w w' : World) : Prop where
  os : w'.os = w.os
  tape : w'.tape = w.tape
  output : w'.output = w.output
  size : w.heap.size ≤ w'.heap.size
  block : ∀ k, k < w.heap.size → ¬ F k → w'.heap[k]? = w.heap[k]?
/-- New memory beside F alone. -/
def Within (F F' : Nat → Prop) (w : World) : Prop := ∀ k, F' k → F k ∨ w.heap.size ≤ k
theorem Turned.below {F : Nat → Prop} {B : Nat} {w0 w w' : World} (h : Turned F w w') (hb : Below B w0 w) (hF : ∀ k, F k → B ≤ k) (hB : B ≤ w.heap.size) : Below B w0 w' :=
  ⟨h.os.trans hb.os, h.tape.trans hb.tape, h.output.trans hb.output, Nat.le_trans hb.size h.size, fun k hk => (h.block k (by omega) (fun hf => by have := hF k hf; omega)).trans (hb.block k hk)⟩
theorem Turned.of_below {F : Nat → Prop} {w w' : World} (h : Below w.heap.size w w') : Turned F w w' := ⟨h.os, h.tape, h.output, h.size, fun k hk _ => h.block k hk⟩
theorem Within.from {F F' : Nat → Prop} {B : Nat} {w : World} (h : Within F F' w) (hF : ∀ k, F k → B ≤ k) (hB : B ≤ w.heap.size) : ∀ k, F' k → B ≤ k := fun k hk => by
  rcases h k hk with h1 | h1
  · exact hF k h1
  · omega
theorem Turned.refl (F : Nat → Prop) (w : World) : Turned F w w := ⟨rfl, rfl, rfl, Nat.le_refl _, fun _ _ _ => rfl⟩
theorem Within.refl (F : Nat → Prop) (w : World) : Within F F w := fun _ h => .inl h
theorem Turned.trans {F F' : Nat → Prop} {a b c : World} (h : Turned F a b) (hw : Within F F' a) (k : Turned F' b c) : Turned F a c :=
  ⟨k.os.trans h.os, k.tape.trans h.tape, k.output.trans h.output, Nat.le_trans h.size k.size, fun j hj hF => (k.block j (Nat.lt_of_lt_of_le hj h.size) (fun hF' => (hw j hF').elim hF (fun h1 => by omega))).trans (h.block j hj hF)⟩
theorem Within.trans {F F' F'' : Nat → Prop} {a b : World} (h : Within F F' a) (hs : a.heap.size ≤ b.heap.size) (k : Within F' F'' b) : Within F F'' a := fun j hj => (k j hj).elim (h j) (fun h1 => .inr (Nat.le_trans hs h1))
/-- An append onto a row of the foot, and a store into a block of it. -/
theorem Turned.grown_set {F : Nat → Prop} {w w1 : World} {o : Obj} {row : Option Nat} {g i : Nat} {u : Value} (hg : (w.alloc o).grownBy w1 row) (hrow : ∀ k, row = some k → F k) (hF : F g) : Turned F w (w1.setCell ⟨g, i, none⟩ u) := by
  refine ⟨hg.os, hg.tape, hg.output, ?_, fun k hk hnF => ?_⟩
  · have := hg.size
    simp at this
    show w.heap.size ≤ (w1.heap.modify g _).size
    rw [Array.size_modify]
    omega
  · have h1 : k ≠ g := fun e => hnF (by rw [e]; exact hF)
    rw [Below.heap_setCell w1 ⟨g, i, none⟩ u k h1, hg.block k (by simp; omega) (fun e => hnF (hrow k e.symm)), Below.heap_alloc w o k hk]
theorem Turned.grown_set_ {F : Nat → Prop} {w w1 : World} {row : Option Nat} {g i : Nat} {u : Value} (hg : w.grownBy w1 row) (hrow : ∀ k, row = some k → F k) (hF : F g) : Turned F w (w1.setCell ⟨g, i, none⟩ u) := by
  refine ⟨hg.os, hg.tape, hg.output, ?_, fun k hk hnF => ?_⟩
  · have := hg.size
    show w.heap.size ≤ (w1.heap.modify g _).size
    rw [Array.size_modify]
    omega
  · have h1 : k ≠ g := fun e => hnF (by rw [e]; exact hF)
    rw [Below.heap_setCell w1 ⟨g, i, none⟩ u k h1, hg.block k hk (fun e => hnF (hrow k e.symm))]
end Go.Proofs.YtnkkckmejjcfkaaGreatDoor.Sp

/- Package sha: Tag. -/
namespace Go.Proofs.YtnkkckmejjcfkaaGreatDoor.Sp
open Go Go.RowKit
set_option maxRecDepth 100000

/-- Tag is the sum of the input. -/
theorem tag_any (d : UInt8) (a : Option Addr) (n c : Nat) (ss : List ByteArray) (w : World) (h : Strs w a n ss) (hn : n ≤ 9223372036854775807) (hlen : len2 ss n ≤ 281474976710656) (hT : Tab w) :
    Calls Tryz.prog 59 #[.int .u8 (d.toNat : Int), .slice a n c] w fun e w' => e = .returned (.string ⟨(sum (inB d ss)).toArray⟩) ∧ Below w.heap.size w w' := by
  have HH := Lib.hid h
  have HT := Lib.hid hT
  obtain ⟨I, eI⟩ : ∃ I : ByteArray, I = ⟨(inB d ss).toArray⟩ := ⟨_, rfl⟩
  have hIl : I.data.toList = inB d ss := by rw [eI]
  have hIs : I.size ≤ 281474976710656 := by rw [← size_list, hIl, ← inp_all, inp_length, h.1]; exact hlen
  have HI := Lib.hid hIl
  have EI := Lib.hid eI
  clear h hT eI hIl
  go_enter Tryz.func59, Tryz.ntmps59
  go_wp2_with fail
  refine (input_any d a n c ss _ HH.out hn hlen).mono ?_
  rintro e w1 ⟨rfl, hb1⟩
  have B1 := Lib.hid hb1
  have HT1 := Lib.hid (HT.out.below hb1 HT.out.lt)
  clear hb1
  rw [← EI.out]
  go_wp2_with fail
  refine (sum_any I (by omega) _ HT1.out).mono ?_
  rintro e w2 ⟨rfl, hb2⟩
  have B2 := Lib.hid (B1.out.trans (hb2.mono B1.out.size))
  clear hb2
  go_wp2_with fail
  go_ret
  exact ⟨ret_string (by rw [HI.out]), B2.out⟩

end Go.Proofs.YtnkkckmejjcfkaaGreatDoor.Sp

/- What is wanted of package trie's own calls: each answers as the plain trie does, and touches nothing but the trie's own memory. (No statement is named here.) -/
namespace Go.Proofs.YtnkkckmejjcfkaaGreatDoor.Sp
open Go Go.RowKit

/-- A proof as a value. -/
def prfV (a : Option Addr) (n c : Nat) (q : Prf) : Value := .agg #[.slice a n c, .bool q.leaf, .string q.path, .string q.value]
/-- How a method that hands back v leaves the trie. -/
def TgTo (Tg : World → (Nat → Prop) → Nat → List Ent → Prop) (w : World) (F : Nat → Prop) (g : Nat) (l : List Ent) (v : Value) (e : Ending) (w' : World) : Prop :=
  ∃ F', e = .returned v ∧ Tg w' F' g l ∧ Turned F w w' ∧ Within F F' w
/-- How Prove leaves it. -/
def PrTo (Tg : World → (Nat → Prop) → Nat → List Ent → Prop) (w : World) (F : Nat → Prop) (g : Nat) (l : List Ent) (q : Prf) (e : Ending) (w' : World) : Prop :=
  ∃ F' a c, e = .returned (prfV a q.beside.length c q) ∧ Strs w' a q.beside.length q.beside ∧ (∀ p, a = some p → w.heap.size ≤ p.block ∧ ¬ F' p.block) ∧ q.beside.length ≤ c ∧ Tg w' F' g l ∧ Turned F w w' ∧ Within F F' w
/-- How Copy leaves it: with another one, apart. -/
def CpTo (Tg : World → (Nat → Prop) → Nat → List Ent → Prop) (w : World) (F : Nat → Prop) (g : Nat) (l : List Ent) (e : Ending) (w' : World) : Prop :=
  ∃ F' G h, e = .returned (.pointer (some ⟨h, 0, none⟩)) ∧ Tg w' F' g l ∧ Tg w' G h l ∧ (∀ k, G k → w.heap.size ≤ k ∧ ¬ F' k) ∧ Turned F w w' ∧ Within F F' w
/-- The program's calls that need no trie, by what they answer. -/
structure TriH : Prop where
  path : ∀ (key : ByteArray) (w : World), key.size ≤ 140737488351232 → Tab w → Calls Tryz.prog 34 #[.string key] w fun e w' => e = .returned (.string (keyP key)) ∧ Below w.heap.size w w'
  nothing : ∀ (w : World), Tab w → Calls Tryz.prog 32 #[] w fun e w' => e = .returned (.string nothingB) ∧ Below w.heap.size w w'
  leaf : ∀ (a b : ByteArray) (w : World), a.size + b.size ≤ 281474976710647 → Tab w → Calls Tryz.prog 33 #[.string a, .string b] w fun e w' => e = .returned (.string (leafB a b)) ∧ Below w.heap.size w w'
  inner : ∀ (a b : ByteArray) (w : World), a.size + b.size ≤ 281474976710647 → Tab w → Calls Tryz.prog 63 #[.string a, .string b] w fun e w' => e = .returned (.string (innerB a b)) ∧ Below w.heap.size w w'
  has : ∀ (root key v : ByteArray) (q : Prf) (a : Option Addr) (n c : Nat) (w : World), key.size ≤ 140737488351232 → v.size ≤ 140737488355000 → n ≤ 9223372036854775807 → Strs w a n q.beside → Tab w →
    Calls Tryz.prog 24 #[.string root, .string key, .string v, prfV a n c q] w fun e w' => e = .returned (.bool (hasB root (keyP key) v q)) ∧ Below w.heap.size w w'
  lacks : ∀ (root key : ByteArray) (q : Prf) (a : Option Addr) (n c : Nat) (w : World), key.size ≤ 140737488351232 → q.value.size ≤ 140737488351232 → n ≤ 9223372036854775807 → Strs w a n q.beside → Tab w →
    Calls Tryz.prog 26 #[.string root, .string key, prfV a n c q] w fun e w' => e = .returned (.bool (lacksB root (keyP key) q)) ∧ Below w.heap.size w w'
/-- The program's tries, by what they answer. -/
structure TriR (Tg : World → (Nat → Prop) → Nat → List Ent → Prop) : Prop extends TriH where
  lt : ∀ {w F g l}, Tg w F g l → ∀ k, F k → k < w.heap.size
  fit : ∀ {w F g l}, Tg w F g l → FitT l ∧ ∀ e ∈ l, e.2.size ≤ 140737488351232
  len_le : ∀ {w F g l}, Tg w F g l → l.length ≤ 1000000
  keep : ∀ {w w' F g l}, Tg w F g l → (∀ k, F k → w'.heap[k]? = w.heap[k]?) → w.heap.size ≤ w'.heap.size → Tg w' F g l
  perm : ∀ {w F g l m}, Tg w F g l → l.Perm m → Tg w F g m
  new : ∀ (w : World), Calls Tryz.prog 8 #[] w fun e w' => ∃ g F, e = .returned (.pointer (some ⟨g, 0, none⟩)) ∧ Tg w' F g [] ∧ (∀ k, F k → w.heap.size ≤ k) ∧ Below w.heap.size w w'
  set : ∀ (w : World) (F : Nat → Prop) (g : Nat) (l : List Ent) (key v : ByteArray), Tg w F g l → key.size ≤ 140737488351232 → v.size ≤ 140737488351232 → l.length < 1000000 → Tab w →
    Calls Tryz.prog 22 #[.pointer (some ⟨g, 0, none⟩), .string key, .string v] w (TgTo Tg w F g (setF l (keyP key) v) (.tuple #[]))
  delete : ∀ (w : World) (F : Nat → Prop) (g : Nat) (l : List Ent) (key : ByteArray), Tg w F g l → key.size ≤ 140737488351232 → Tab w →
    Calls Tryz.prog 36 #[.pointer (some ⟨g, 0, none⟩), .string key] w (TgTo Tg w F g (delF l (keyP key)) (.tuple #[]))
  get : ∀ (w : World) (F : Nat → Prop) (g : Nat) (l : List Ent) (key : ByteArray), Tg w F g l → key.size ≤ 140737488351232 → Tab w →
    Calls Tryz.prog 12 #[.pointer (some ⟨g, 0, none⟩), .string key] w (TgTo Tg w F g l (.tuple #[.string ((getF l (keyP key)).getD .empty), .bool (getF l (keyP key)).isSome]))
  len : ∀ (w : World) (F : Nat → Prop) (g : Nat) (l : List Ent), Tg w F g l →
    Calls Tryz.prog 14 #[.pointer (some ⟨g, 0, none⟩)] w (TgTo Tg w F g l (.int .i64 (l.length : Int)))
  root : ∀ (w : World) (F : Nat → Prop) (g : Nat) (l : List Ent), Tg w F g l → Tab w →
    Calls Tryz.prog 16 #[.pointer (some ⟨g, 0, none⟩)] w (TgTo Tg w F g l (.string (rootF l)))
  prove : ∀ (w : World) (F : Nat → Prop) (g : Nat) (l : List Ent) (key : ByteArray), Tg w F g l → key.size ≤ 140737488351232 → Tab w →
    Calls Tryz.prog 19 #[.pointer (some ⟨g, 0, none⟩), .string key] w (PrTo Tg w F g l (proofF l (keyP key)))
  copy : ∀ (w : World) (F : Nat → Prop) (g : Nat) (l : List Ent), Tg w F g l →
    Calls Tryz.prog 21 #[.pointer (some ⟨g, 0, none⟩)] w (CpTo Tg w F g l)
theorem TriR.below {Tg : World → (Nat → Prop) → Nat → List Ent → Prop} (R : TriR Tg) {w w' : World} {F : Nat → Prop} {g : Nat} {l : List Ent} (s : Tg w F g l) (hb : Below w.heap.size w w') : Tg w' F g l :=
  R.keep s (fun k hk => hb.block k (R.lt s k hk)) hb.size
theorem TriR.other {Tg : World → (Nat → Prop) → Nat → List Ent → Prop} (R : TriR Tg) {w w' : World} {F G : Nat → Prop} {g : Nat} {l : List Ent} (s : Tg w F g l) (ht : Turned G w w') (hd : ∀ k, F k → ¬ G k) : Tg w' F g l :=
  R.keep s (fun k hk => ht.block k (R.lt s k hk) (hd k hk)) ht.size
theorem keyP_32 (key : ByteArray) : (keyP key).size = 32 := sumT_32 _
end Go.Proofs.YtnkkckmejjcfkaaGreatDoor.Sp

/- Plain codec over lists of bytes: what the contracts of package codec and of the document's own answer come to; no program is named here. -/
namespace Go.Proofs.YtnkkckmejjcfkaaGreatDoor.Sp

/-- The last k bytes of a number, the highest first. -/
def be : Nat → Nat → List UInt8
  | 0, _ => []
  | k + 1, n => UInt8.ofNat (n / 256 ^ k) :: be k n
/-- The number that some bytes are, the highest first. -/
def num (l : List UInt8) : Nat := l.foldl (fun a b => a * 256 + b.toNat) 0

theorem be_length (k n : Nat) : (be k n).length = k := by
  induction k with
  | zero => rfl
  | succ k ih => simp [be, ih]
theorem num_snoc (l : List UInt8) (b : UInt8) : num (l ++ [b]) = num l * 256 + b.toNat := by simp [num]
theorem num_fold (l : List UInt8) : ∀ a, l.foldl (fun a b => a * 256 + b.toNat) a = a * 256 ^ l.length + num l := by
  induction l with
  | nil => intro a; simp [num]
  | cons x l ih =>
    intro a
    have h1 := ih (a * 256 + x.toNat)
    have h2 := ih (0 * 256 + x.toNat)
    simp only [num, List.foldl_cons, List.length_cons] at h1 h2 ⊢
    rw [h1, h2, Nat.pow_succ, Nat.add_mul, Nat.zero_mul, Nat.zero_add, Nat.mul_assoc a, Nat.mul_comm 256]
    omega
theorem num_cons (x : UInt8) (l : List UInt8) : num (x :: l) = x.toNat * 256 ^ l.length + num l := by
  have := num_fold l (0 * 256 + x.toNat)
  simp only [num, List.foldl_cons] at this ⊢
  rw [this]; simp
theorem num_lt (l : List UInt8) : num l < 256 ^ l.length := by
  induction l with
  | nil => simp [num]
  | cons x l ih =>
    rw [num_cons, List.length_cons, Nat.pow_succ]
    have hx := x.toNat_lt
    have : (x.toNat + 1) * 256 ^ l.length ≤ 256 * 256 ^ l.length := Nat.mul_le_mul_right _ (by omega)
    rw [Nat.add_mul] at this
    rw [Nat.mul_comm (256 ^ l.length)]
    omega
theorem num_be (k n : Nat) : num (be k n) = n % 256 ^ k := by
  induction k with
  | zero => simp [be, num, Nat.mod_one]
  | succ k ih =>
    rw [be, num_cons, be_length, ih, Nat.pow_succ, Nat.mod_mul, UInt8.toNat_ofNat', Nat.mul_comm, Nat.add_comm]
theorem be_mod (k n : Nat) : ∀ m, k ≤ m → be k (n % 256 ^ m) = be k n := by
  induction k with
  | zero => intro m _; rfl
  | succ k ih =>
    intro m hm
    rw [be, be, ih m (by omega)]
    congr 1
    apply UInt8.toNat_inj.1
    rw [UInt8.toNat_ofNat', UInt8.toNat_ofNat']
    obtain ⟨j, rfl⟩ : ∃ j, m = k + (1 + j) := ⟨m - k - 1, by omega⟩
    rw [Nat.pow_add, Nat.mod_mul_right_div_self, Nat.pow_add, Nat.pow_one, Nat.mod_mul_right_mod]
theorem be_num (l : List UInt8) : be l.length (num l) = l := by
  induction l with
  | nil => rfl
  | cons x l ih =>
    have hl := num_lt l
    have hp : 0 < 256 ^ l.length := Nat.pos_of_ne_zero (by simp)
    rw [List.length_cons, be]
    congr 1
    · rw [num_cons, Nat.mul_comm, Nat.mul_add_div hp, Nat.div_eq_of_lt hl]; simp
    · rw [← be_mod l.length (num (x :: l)) l.length (Nat.le_refl _)]
      have : num (x :: l) % 256 ^ l.length = num l := by
        rw [num_cons, Nat.mul_comm, Nat.mul_add_mod, Nat.mod_eq_of_lt hl]
      rw [this, ih]
theorem be_take (k : Nat) (n : Nat) : ∀ j, j ≤ k → (be k n).drop (k - j) = be j n := by
  induction k with
  | zero => intro j hj; obtain rfl : j = 0 := by omega
            rfl
  | succ k ih =>
    intro j hj
    by_cases h : j = k + 1
    · subst h; simp
    · rw [show k + 1 - j = (k - j) + 1 by omega, be, List.drop_succ_cons]; exact ih j (by omega)
/-- The first bytes of be: the highest ones. -/
def beTop (k n j : Nat) : List UInt8 := (be k n).take j
theorem beTop_zero (k n : Nat) : beTop k n 0 = [] := rfl
theorem beTop_all (k n : Nat) : beTop k n k = be k n := by unfold beTop; rw [List.take_of_length_le (by rw [be_length]; exact Nat.le_refl _)]
theorem be_get (k n i : Nat) (h : i < k) : (be k n)[i]? = some (UInt8.ofNat (n / 256 ^ (k - 1 - i))) := by
  have h1 := be_take k n (k - i) (by omega)
  rw [show k - (k - i) = i by omega] at h1
  have h2 : (be k n)[i]? = ((be k n).drop i)[0]? := by simp
  rw [h2, h1]
  obtain ⟨j, hj⟩ : ∃ j, k - i = j + 1 := ⟨k - i - 1, by omega⟩
  rw [hj, show k - 1 - i = j by omega]; rfl
theorem beTop_succ (k n i : Nat) (h : i < k) : beTop k n (i + 1) = beTop k n i ++ [UInt8.ofNat (n / 256 ^ (k - 1 - i))] := by
  unfold beTop
  have hg := be_get k n i h
  have hl : i < (be k n).length := by rw [be_length]; exact h
  rw [List.take_succ_eq_append_getElem hl]
  rw [List.getElem?_eq_getElem hl] at hg
  injection hg with hg
  rw [hg]
theorem be_inj {k a b : Nat} (ha : a < 256 ^ k) (hb : b < 256 ^ k) (h : be k a = be k b) : a = b := by
  have := congrArg num h
  rwa [num_be, num_be, Nat.mod_eq_of_lt ha, Nat.mod_eq_of_lt hb] at this

/-- An item: a number (t false), or a text. -/
structure It where
  t : Bool
  n : Nat
  s : ByteArray
def It.none_ : It := ⟨false, 0, .empty⟩
def enc (x : It) : List UInt8 := if x.t then be 4 x.s.size ++ x.s.data.toList else be 8 x.n
def laid (l : List It) : List UInt8 := l.flatMap enc
def It.long (x : It) : Nat := if x.t then 4 + x.s.size else 8
theorem enc_length (x : It) : (enc x).length = x.long := by
  unfold enc It.long
  split
  · rw [List.length_append, be_length]; simp
  · rw [be_length]
def laidLen (l : List It) : Nat := (l.map It.long).sum
theorem laid_length (l : List It) : (laid l).length = laidLen l := by
  unfold laid laidLen
  induction l with
  | nil => rfl
  | cons x l ih => simp [List.flatMap_cons, enc_length] at ih ⊢
theorem laid_append (l m : List It) : laid (l ++ m) = laid l ++ laid m := by simp [laid]
theorem take_at {α : Type} (d : α) (l : List α) (k : Nat) (hk : k < l.length) : l.take (k + 1) = l.take k ++ [l.getD k d] := by
  rw [List.take_succ_eq_append_getElem hk, List.getD_eq_getElem?_getD, List.getElem?_eq_getElem hk]; rfl
theorem drop_at {α : Type} (d : α) (l : List α) (k : Nat) (hk : k < l.length) : l.drop k = l.getD k d :: l.drop (k + 1) := by
  rw [List.drop_eq_getElem_cons hk, List.getD_eq_getElem?_getD, List.getElem?_eq_getElem hk]; rfl
theorem laid_succ (l : List It) (k : Nat) (hk : k < l.length) : laid (l.take (k + 1)) = laid (l.take k) ++ enc (l.getD k It.none_) := by
  rw [take_at It.none_ l k hk, laid_append]; simp [laid]
theorem laidLen_succ (l : List It) (k : Nat) (hk : k < l.length) : laidLen (l.take (k + 1)) = laidLen (l.take k) + (l.getD k It.none_).long := by
  rw [take_at It.none_ l k hk]; simp [laidLen]
theorem laidLen_le (l : List It) (k : Nat) : laidLen (l.take k) ≤ laidLen l := by
  have h : laidLen l = laidLen (l.take k) + laidLen (l.drop k) := by
    unfold laidLen
    rw [← List.sum_append, ← List.map_append, List.take_append_drop]
  omega

end Go.Proofs.YtnkkckmejjcfkaaGreatDoor.Sp
