/- Plain tries over texts: the hash of a subtree, proofs, and what follows of them. No program is named here. -/
import Derived.Test.YtnkkckmejjcfkaaGreatDoorTrePure
namespace Go.Proofs.YtnkkckmejjcfkaaGreatDoor.Sp
open Go

/-- An input of parts as a text, and its sum. -/
def inT (d : UInt8) (ps : List ByteArray) : ByteArray := ⟨(inB d ps).toArray⟩
theorem inT_inj (d d' : UInt8) (ps qs : List ByteArray) (h1 : ∀ s ∈ ps, s.size < 4294967296) (h2 : ∀ s ∈ qs, s.size < 4294967296) (h : inT d ps = inT d' qs) : d = d' ∧ ps = qs := by
  have h3 : inB d ps = inB d' qs := by
    have := congrArg (fun t : ByteArray => t.data.toList) h
    exact this
  exact inB_inj d d' ps qs h1 h2 h3
theorem sumT_32 (t : ByteArray) : (sumT t).size = 32 := by rw [← size_list]; exact encode_length _
def keyP (key : ByteArray) : ByteArray := sumT (inT 6 [key])
def nothingB : ByteArray := sumT (inT 9 [])
def leafB (p v : ByteArray) : ByteArray := sumT (inT 7 [p, v])
def innerB (a b : ByteArray) : ByteArray := sumT (inT 8 [a, b])
/-- A value at a path. -/
abbrev Ent := ByteArray × ByteArray
def bitN (p : ByteArray) (d : Nat) : Nat := (p.data.toList.getD (d / 8) 0).toNat / 2 ^ (7 - d % 8) % 2
theorem bitN_two (p : ByteArray) (d : Nat) : bitN p d = 0 ∨ bitN p d = 1 := by unfold bitN; omega
theorem byte_bits (a b : UInt8) (h : ∀ k, k < 8 → a.toNat / 2 ^ (7 - k) % 2 = b.toNat / 2 ^ (7 - k) % 2) : a = b := by
  have h0 := h 0 (by omega)
  have h1 := h 1 (by omega)
  have h2 := h 2 (by omega)
  have h3 := h 3 (by omega)
  have h4 := h 4 (by omega)
  have h5 := h 5 (by omega)
  have h6 := h 6 (by omega)
  have h7 := h 7 (by omega)
  have ha := a.toNat_lt
  have hb := b.toNat_lt
  apply UInt8.toNat_inj.1
  simp only [Nat.reduceSub, Nat.reducePow] at h0 h1 h2 h3 h4 h5 h6 h7
  omega
theorem path_ext (p q : ByteArray) (hp : p.size = 32) (hq : q.size = 32) (h : ∀ k, k < 256 → bitN p k = bitN q k) : p = q := by
  apply list_inj
  apply List.ext_getElem (by rw [size_list, size_list, hp, hq])
  intro i h1 h2
  rw [size_list] at h1 h2
  have e : ∀ (r : ByteArray) (hr : i < r.data.toList.length), r.data.toList[i] = r.data.toList.getD i 0 := fun r hr => by
    rw [List.getD_eq_getElem?_getD, List.getElem?_eq_getElem hr]; rfl
  rw [e p (by rw [size_list]; exact h1), e q (by rw [size_list]; exact h2)]
  apply byte_bits
  intro k hk
  have := h (8 * i + k) (by omega)
  unfold bitN at this
  rw [show (8 * i + k) / 8 = i by omega, show (8 * i + k) % 8 = k by omega] at this
  exact this
/-- Those whose bit d is b. -/
def filt (b d : Nat) (l : List Ent) : List Ent := l.filter fun e => decide (bitN e.1 d = b)
theorem filt_mem {b d : Nat} {l : List Ent} {e : Ent} : e ∈ filt b d l ↔ e ∈ l ∧ bitN e.1 d = b := by unfold filt; rw [List.mem_filter, decide_eq_true_iff]
/-- The hash of a subtree of depth d; n levels may still be below. -/
def hashF : Nat → Nat → List Ent → ByteArray
  | _, _, [] => nothingB
  | _, _, [e] => leafB e.1 e.2
  | 0, _, _ :: _ :: _ => nothingB
  | n + 1, d, e :: f :: l => innerB (hashF n (d + 1) (filt 0 d (e :: f :: l))) (hashF n (d + 1) (filt 1 d (e :: f :: l)))
/-- The inputs of its hashes. -/
def inputsF : Nat → Nat → List Ent → List ByteArray
  | _, _, [] => [inT 9 []]
  | _, _, [e] => [inT 7 [e.1, e.2]]
  | 0, _, _ :: _ :: _ => []
  | n + 1, d, e :: f :: l => inputsF n (d + 1) (filt 0 d (e :: f :: l)) ++ inputsF n (d + 1) (filt 1 d (e :: f :: l)) ++ [inT 8 [hashF n (d + 1) (filt 0 d (e :: f :: l)), hashF n (d + 1) (filt 1 d (e :: f :: l))]]
/-- What stands beside the way of a path, and what the way ends at. -/
def proveF : Nat → Nat → List Ent → ByteArray → List ByteArray × Option Ent
  | _, _, [], _ => ([], none)
  | _, _, [e], _ => ([], some e)
  | 0, _, _ :: _ :: _, _ => ([], none)
  | n + 1, d, e :: f :: l, p =>
    let r := proveF n (d + 1) (filt (bitN p d) d (e :: f :: l)) p
    (hashF n (d + 1) (filt (1 - bitN p d) d (e :: f :: l)) :: r.1, r.2)
/-- What is come to by a path's bits from depth d on. -/
def upF (p : ByteArray) (d : Nat) (h : ByteArray) : List ByteArray → ByteArray
  | [] => h
  | x :: l => if bitN p d = 0 then innerB (upF p (d + 1) h l) x else innerB x (upF p (d + 1) h l)
def upIn (p : ByteArray) (d : Nat) (h : ByteArray) : List ByteArray → List ByteArray
  | [] => []
  | x :: l => upIn p (d + 1) h l ++ [if bitN p d = 0 then inT 8 [upF p (d + 1) h l, x] else inT 8 [x, upF p (d + 1) h l]]
/-- The hash of what a way ends at. -/
def endH : Option Ent → ByteArray
  | none => nothingB
  | some e => leafB e.1 e.2
def endIn : Option Ent → ByteArray
  | none => inT 9 []
  | some e => inT 7 [e.1, e.2]
theorem endH_sum (o : Option Ent) : endH o = sumT (endIn o) := by cases o <;> rfl
theorem endH_32 (o : Option Ent) : (endH o).size = 32 := by rw [endH_sum]; exact sumT_32 _
theorem hashF_32 (n d : Nat) (l : List Ent) : (hashF n d l).size = 32 := by
  match n, l with
  | _, [] => unfold hashF; exact sumT_32 _
  | _, [e] => unfold hashF; exact sumT_32 _
  | 0, _ :: _ :: _ => unfold hashF; exact sumT_32 _
  | n + 1, e :: f :: l => unfold hashF; exact sumT_32 _
theorem upF_32 (p : ByteArray) (d : Nat) (h : ByteArray) (hh : h.size = 32) (l : List ByteArray) : (upF p d h l).size = 32 := by
  cases l with
  | nil => exact hh
  | cons x l =>
    unfold upF
    split
    · exact sumT_32 _
    · exact sumT_32 _

/-- Entries of unlike paths of 32 bytes that agree in their first d bits. -/
structure Fit (n d : Nat) (l : List Ent) : Prop where
  len : n + d = 256
  size : ∀ e ∈ l, e.1.size = 32
  agree : ∀ e ∈ l, ∀ f ∈ l, ∀ k, k < d → bitN e.1 k = bitN f.1 k
  nodup : (l.map Prod.fst).Nodup
theorem Fit.down {n d : Nat} {l : List Ent} (h : Fit (n + 1) d l) (b : Nat) : Fit n (d + 1) (filt b d l) where
  len := by have := h.len; omega
  size := fun e he => h.size e (filt_mem.1 he).1
  agree := fun e he f hf k hk => by
    rcases Nat.lt_or_ge k d with h1 | h1
    · exact h.agree e (filt_mem.1 he).1 f (filt_mem.1 hf).1 k h1
    · obtain rfl : k = d := by omega
      rw [(filt_mem.1 he).2, (filt_mem.1 hf).2]
  nodup := by
    have hs : ((filt b d l).map Prod.fst).Sublist (l.map Prod.fst) := List.Sublist.map _ List.filter_sublist
    exact hs.nodup h.nodup
theorem Fit.zero {d : Nat} {e f : Ent} {l : List Ent} (h : Fit 0 d (e :: f :: l)) : False := by
  have hd : d = 256 := by have := h.len; omega
  subst hd
  have hef : e.1 = f.1 := path_ext e.1 f.1 (h.size e (by simp)) (h.size f (by simp)) (fun k hk => h.agree e (by simp) f (by simp) k hk)
  have := h.nodup
  simp only [List.map_cons, List.nodup_cons, List.mem_cons] at this
  exact this.1 (.inl hef)
theorem Fit.val {n d : Nat} {l : List Ent} (h : Fit n d l) {p v w : ByteArray} (h1 : (p, v) ∈ l) (h2 : (p, w) ∈ l) : v = w := by
  have hn := h.nodup
  clear h
  induction l with
  | nil => cases h1
  | cons e l ih =>
    simp only [List.map_cons, List.nodup_cons] at hn
    rcases List.mem_cons.1 h1 with g1 | g1
    · rcases List.mem_cons.1 h2 with g2 | g2
      · rw [← g1] at g2; cases g2; rfl
      · have := List.mem_map_of_mem (f := Prod.fst) g2
        rw [← g1] at hn; exact absurd this hn.1
    · rcases List.mem_cons.1 h2 with g2 | g2
      · have := List.mem_map_of_mem (f := Prod.fst) g1
        rw [← g2] at hn; exact absurd this hn.1
      · exact ih g1 g2 hn.2

/-- What a way comes to is the root. -/
theorem up_prove : ∀ (n d : Nat) (l : List Ent) (p : ByteArray), Fit n d l → upF p d (endH (proveF n d l p).2) (proveF n d l p).1 = hashF n d l
  | n, d, [], p, _ => by cases n <;> rfl
  | n, d, [e], p, _ => by cases n <;> rfl
  | 0, d, e :: f :: l, p, h => (h.zero).elim
  | n + 1, d, e :: f :: l, p, h => by
    have ih := up_prove n (d + 1) (filt (bitN p d) d (e :: f :: l)) p (h.down _)
    rw [proveF, upF, hashF]
    rcases bitN_two p d with hb | hb
    · rw [if_pos hb, ih, hb]
    · rw [if_neg (by omega), ih, hb]
/-- What a way ends at: an entry that agrees in all bits on the way; the path's own one, if it is there. -/
theorem prove_end : ∀ (n d : Nat) (l : List Ent) (p : ByteArray), Fit n d l →
    (proveF n d l p).1.length ≤ n ∧ (∀ x ∈ (proveF n d l p).1, x.size = 32) ∧
    (∀ e, (proveF n d l p).2 = some e → e ∈ l ∧ ∀ k, d ≤ k → k < d + (proveF n d l p).1.length → bitN e.1 k = bitN p k) ∧
    (∀ v, (p, v) ∈ l → (proveF n d l p).2 = some (p, v))
  | n, d, [], p, _ => by
    rw [proveF]
    exact ⟨Nat.zero_le _, (fun x hx => by cases hx), (fun e he => by cases he), (fun v hv => by cases hv)⟩
  | n, d, [e], p, _ => by
    rw [proveF]
    refine ⟨Nat.zero_le _, (fun x hx => by cases hx), (fun f hf => ?_), (fun v hv => ?_)⟩
    · injection hf with hf
      subst hf
      exact ⟨List.mem_singleton.2 rfl, fun k h1 h2 => by simp at h2; omega⟩
    · rw [List.mem_singleton.1 hv]
  | 0, d, e :: f :: l, p, h => (h.zero).elim
  | n + 1, d, e :: f :: l, p, h => by
    obtain ⟨i1, i2, i3, i4⟩ := prove_end n (d + 1) (filt (bitN p d) d (e :: f :: l)) p (h.down _)
    rw [proveF]
    refine ⟨by simp only [List.length_cons]; omega, ?_, ?_, ?_⟩
    · intro x hx
      rcases List.mem_cons.1 hx with rfl | hx
      · exact hashF_32 _ _ _
      · exact i2 x hx
    · intro g hg
      obtain ⟨h1, h2⟩ := i3 g hg
      refine ⟨(filt_mem.1 h1).1, fun k hk1 hk2 => ?_⟩
      simp only [List.length_cons] at hk2
      rcases Nat.lt_or_ge d k with h3 | h3
      · exact h2 k (by omega) (by omega)
      · obtain rfl : k = d := by omega
        exact (filt_mem.1 h1).2
    · intro v hv
      exact i4 v (filt_mem.2 ⟨hv, rfl⟩)

/-! What inputs are of unlike shapes. -/
theorem inT_tag {d e : UInt8} {a b : List ByteArray} (h : inT d a = inT e b) : d = e := by
  have h3 : inB d a = inB e b := congrArg (fun t : ByteArray => t.data.toList) h
  unfold inB at h3
  injection h3
theorem part_last (v w : ByteArray) (h : partB v = partB w) : v = w := by
  unfold partB at h
  have h1 := (List.append_inj h (by rw [bytes4_length, bytes4_length])).2
  have h6 : v.data = w.data := Array.toList_inj.1 h1
  cases v; cases w; simp only at h6; rw [h6]
theorem keyIn_inj {a b : ByteArray} (h : inT 6 [a] = inT 6 [b]) : a = b := by
  have h3 : inB 6 [a] = inB 6 [b] := congrArg (fun t : ByteArray => t.data.toList) h
  unfold inB at h3
  injection h3 with _ h4
  rw [List.flatMap_cons, List.flatMap_cons, List.flatMap_nil, List.append_nil, List.append_nil] at h4
  exact part_last a b h4
theorem leafIn_inj {p v q w : ByteArray} (hp : p.size = 32) (hq : q.size = 32) (h : inT 7 [p, v] = inT 7 [q, w]) : p = q ∧ v = w := by
  have h3 : inB 7 [p, v] = inB 7 [q, w] := congrArg (fun t : ByteArray => t.data.toList) h
  unfold inB at h3
  injection h3 with _ h4
  rw [List.flatMap_cons, List.flatMap_cons, List.flatMap_cons, List.flatMap_cons, List.flatMap_nil, List.append_nil, List.append_nil] at h4
  obtain ⟨h5, h6⟩ := partB_inj p q _ _ (by omega) (by omega) h4
  exact ⟨h5, part_last v w h6⟩
theorem innerIn_inj {a b c d : ByteArray} (ha : a.size = 32) (hb : b.size = 32) (hc : c.size = 32) (hd : d.size = 32) (h : inT 8 [a, b] = inT 8 [c, d]) : a = c ∧ b = d := by
  have h2 := (inT_inj 8 8 [a, b] [c, d] (by intro s hs; simp at hs; rcases hs with rfl | rfl <;> omega) (by intro s hs; simp at hs; rcases hs with rfl | rfl <;> omega) h).2
  simp only [List.cons.injEq, and_true] at h2
  exact h2
/-- Of one sum: of one text, or a clash. -/
theorem one_or {u v : ByteArray} {l : List ByteArray} (hu : u ∈ l) (hv : v ∈ l) (h : sumT u = sumT v) : u = v ∨ ClashIn l := by
  by_cases e : u = v
  · exact .inl e
  · exact .inr ⟨u, v, hu, hv, e, h⟩

/-- What comes to the root by a path's bits is what the search for that path comes to; or there is a clash. -/
theorem sound_tri : ∀ (n d : Nat) (l : List Ent) (p : ByteArray) (o : Option Ent) (bs : List ByteArray), Fit n d l → (∀ e, o = some e → e.1.size = 32) → (∀ x ∈ bs, x.size = 32) →
    upF p d (endH o) bs = hashF n d l → (proveF n d l p = (bs, o)) ∨ ClashIn (inputsF n d l ++ (endIn o :: upIn p d (endH o) bs))
  | n, d, [], p, o, [], _, _, _, e => by
    have e1 : hashF n d [] = sumT (inT 9 []) := by cases n <;> rfl
    have e2 : inputsF n d [] = [inT 9 []] := by cases n <;> rfl
    have e3 : proveF n d [] p = ([], none) := by cases n <;> rfl
    rw [e2]
    rw [e1, upF, endH_sum] at e
    rcases one_or (l := [inT 9 []] ++ (endIn o :: upIn p d (endH o) [])) (by simp) (by simp) e with h | h
    · refine .inl ?_
      cases o with
      | none => exact e3
      | some x => exact absurd (inT_tag (d := 7) (e := 9) h) (by decide)
    · exact .inr h
  | n, d, [], p, o, x :: bs, _, _, _, e => by
    have e1 : hashF n d [] = sumT (inT 9 []) := by cases n <;> rfl
    have e2 : inputsF n d [] = [inT 9 []] := by cases n <;> rfl
    rw [e2]
    refine .inr ?_
    rw [e1, upF] at e
    by_cases hb : bitN p d = 0
    · rw [if_pos hb] at e
      refine ⟨inT 8 [upF p (d + 1) (endH o) bs, x], inT 9 [], ?_, by simp, fun h => absurd (inT_tag h) (by decide), e⟩
      rw [upIn, if_pos hb]; simp
    · rw [if_neg hb] at e
      refine ⟨inT 8 [x, upF p (d + 1) (endH o) bs], inT 9 [], ?_, by simp, fun h => absurd (inT_tag h) (by decide), e⟩
      rw [upIn, if_neg hb]; simp
  | n, d, [y], p, o, [], hl, ho, _, e => by
    have e1 : hashF n d [y] = sumT (inT 7 [y.1, y.2]) := by cases n <;> rfl
    have e2 : inputsF n d [y] = [inT 7 [y.1, y.2]] := by cases n <;> rfl
    have e3 : proveF n d [y] p = ([], some y) := by cases n <;> rfl
    rw [e2]
    rw [e1, upF, endH_sum] at e
    rcases one_or (l := [inT 7 [y.1, y.2]] ++ (endIn o :: upIn p d (endH o) [])) (by simp) (by simp) e with h | h
    · refine .inl ?_
      cases o with
      | none => exact absurd (inT_tag (d := 9) (e := 7) h) (by decide)
      | some x =>
        obtain ⟨h1, h2⟩ := leafIn_inj (ho x rfl) (hl.size y (by simp)) h
        rw [e3, Prod.ext h1 h2]
    · exact .inr h
  | n, d, [y], p, o, x :: bs, _, _, _, e => by
    have e1 : hashF n d [y] = sumT (inT 7 [y.1, y.2]) := by cases n <;> rfl
    have e2 : inputsF n d [y] = [inT 7 [y.1, y.2]] := by cases n <;> rfl
    rw [e2]
    refine .inr ?_
    rw [e1, upF] at e
    by_cases hb : bitN p d = 0
    · rw [if_pos hb] at e
      refine ⟨inT 8 [upF p (d + 1) (endH o) bs, x], inT 7 [y.1, y.2], ?_, by simp, fun h => absurd (inT_tag h) (by decide), e⟩
      rw [upIn, if_pos hb]; simp
    · rw [if_neg hb] at e
      refine ⟨inT 8 [x, upF p (d + 1) (endH o) bs], inT 7 [y.1, y.2], ?_, by simp, fun h => absurd (inT_tag h) (by decide), e⟩
      rw [upIn, if_neg hb]; simp
  | 0, d, y :: z :: l, p, o, bs, hl, _, _, _ => (hl.zero).elim
  | n + 1, d, y :: z :: l, p, o, [], _, _, _, e => by
    refine .inr ?_
    rw [upF, hashF, endH_sum] at e
    refine ⟨endIn o, inT 8 [hashF n (d + 1) (filt 0 d (y :: z :: l)), hashF n (d + 1) (filt 1 d (y :: z :: l))], by simp, by rw [inputsF]; simp, fun h => ?_, e⟩
    cases o with
    | none => exact absurd (inT_tag (d := 9) (e := 8) h) (by decide)
    | some x => exact absurd (inT_tag (d := 7) (e := 8) h) (by decide)
  | n + 1, d, y :: z :: l, p, o, x :: bs, hl, ho, hs, e => by
    have ih := sound_tri n (d + 1) (filt (bitN p d) d (y :: z :: l)) p o bs (hl.down _) ho (fun t ht => hs t (List.mem_cons_of_mem _ ht))
    have hu := upF_32 p (d + 1) (endH o) (endH_32 o) bs
    have hx := hs x (by simp)
    rw [inputsF, upIn]
    rw [upF, hashF] at e
    rcases bitN_two p d with hb | hb
    · rw [if_pos hb] at e ⊢
      rcases one_or (u := inT 8 [upF p (d + 1) (endH o) bs, x]) (v := inT 8 [hashF n (d + 1) (filt 0 d (y :: z :: l)), hashF n (d + 1) (filt 1 d (y :: z :: l))])
        (l := inputsF n (d + 1) (filt 0 d (y :: z :: l)) ++ inputsF n (d + 1) (filt 1 d (y :: z :: l)) ++ [inT 8 [hashF n (d + 1) (filt 0 d (y :: z :: l)), hashF n (d + 1) (filt 1 d (y :: z :: l))]] ++ (endIn o :: (upIn p (d + 1) (endH o) bs ++ [inT 8 [upF p (d + 1) (endH o) bs, x]]))) (by simp) (by simp) e with h | h
      · obtain ⟨h1, h2⟩ := innerIn_inj hu hx (hashF_32 _ _ _) (hashF_32 _ _ _) h
        rw [hb] at ih
        rcases ih h1 with h3 | h3
        · refine .inl ?_
          rw [proveF, hb, h3, h2]
        · refine .inr (h3.mono fun t ht => ?_)
          simp only [List.mem_append, List.mem_cons] at ht ⊢
          rcases ht with h | h | h
          · exact .inl (.inl (.inl h))
          · exact .inr (.inl h)
          · exact .inr (.inr (.inl h))
      · exact .inr h
    · have hb' : ¬ bitN p d = 0 := by omega
      rw [if_neg hb'] at e ⊢
      rcases one_or (u := inT 8 [x, upF p (d + 1) (endH o) bs]) (v := inT 8 [hashF n (d + 1) (filt 0 d (y :: z :: l)), hashF n (d + 1) (filt 1 d (y :: z :: l))])
        (l := inputsF n (d + 1) (filt 0 d (y :: z :: l)) ++ inputsF n (d + 1) (filt 1 d (y :: z :: l)) ++ [inT 8 [hashF n (d + 1) (filt 0 d (y :: z :: l)), hashF n (d + 1) (filt 1 d (y :: z :: l))]] ++ (endIn o :: (upIn p (d + 1) (endH o) bs ++ [inT 8 [x, upF p (d + 1) (endH o) bs]]))) (by simp) (by simp) e with h | h
      · obtain ⟨h1, h2⟩ := innerIn_inj hx hu (hashF_32 _ _ _) (hashF_32 _ _ _) h
        rw [hb] at ih
        rcases ih h2 with h3 | h3
        · refine .inl ?_
          rw [proveF, hb, h3, h1]
        · refine .inr (h3.mono fun t ht => ?_)
          simp only [List.mem_append, List.mem_cons] at ht ⊢
          rcases ht with h | h | h
          · exact .inl (.inl (.inr h))
          · exact .inr (.inl h)
          · exact .inr (.inr (.inl h))
      · exact .inr h

/-- Of one root: of one set of entries; or there is a clash. -/
theorem roots_tri : ∀ (n d : Nat) (l m : List Ent), Fit n d l → Fit n d m → hashF n d l = hashF n d m → (∀ e, e ∈ l ↔ e ∈ m) ∨ ClashIn (inputsF n d l ++ inputsF n d m)
  | n, d, [], [], _, _, _ => .inl fun _ => Iff.rfl
  | n, d, [], [z], _, _, e => by
    have e1 : hashF n d [] = sumT (inT 9 []) := by cases n <;> rfl
    have e2 : hashF n d [z] = sumT (inT 7 [z.1, z.2]) := by cases n <;> rfl
    have i1 : inputsF n d [] = [inT 9 []] := by cases n <;> rfl
    have i2 : inputsF n d [z] = [inT 7 [z.1, z.2]] := by cases n <;> rfl
    rw [e1, e2] at e
    exact .inr ⟨_, _, by rw [i1]; simp, by rw [i2]; simp, fun h => absurd (inT_tag h) (by decide), e⟩
  | n, d, [z], [], _, _, e => by
    have e1 : hashF n d [] = sumT (inT 9 []) := by cases n <;> rfl
    have e2 : hashF n d [z] = sumT (inT 7 [z.1, z.2]) := by cases n <;> rfl
    have i1 : inputsF n d [] = [inT 9 []] := by cases n <;> rfl
    have i2 : inputsF n d [z] = [inT 7 [z.1, z.2]] := by cases n <;> rfl
    rw [e1, e2] at e
    exact .inr ⟨_, _, by rw [i2]; simp, by rw [i1]; simp, fun h => absurd (inT_tag h) (by decide), e⟩
  | n, d, [y], [z], hl, hm, e => by
    have e1 : hashF n d [y] = sumT (inT 7 [y.1, y.2]) := by cases n <;> rfl
    have e2 : hashF n d [z] = sumT (inT 7 [z.1, z.2]) := by cases n <;> rfl
    have i1 : inputsF n d [y] = [inT 7 [y.1, y.2]] := by cases n <;> rfl
    have i2 : inputsF n d [z] = [inT 7 [z.1, z.2]] := by cases n <;> rfl
    rw [e1, e2] at e
    rcases one_or (l := inputsF n d [y] ++ inputsF n d [z]) (by rw [i1]; simp) (by rw [i2]; simp) e with h | h
    · obtain ⟨h1, h2⟩ := leafIn_inj (hl.size y (by simp)) (hm.size z (by simp)) h
      rw [Prod.ext h1 h2]
      exact .inl fun _ => Iff.rfl
    · exact .inr h
  | 0, d, y :: z :: l, m, hl, _, _ => (hl.zero).elim
  | 0, d, l, y :: z :: m, _, hm, _ => (hm.zero).elim
  | n + 1, d, y :: z :: l, [], _, _, e => by
    rw [hashF, hashF] at e
    exact .inr ⟨_, _, by rw [inputsF, inputsF]; simp, by rw [inputsF, inputsF]; simp, fun h => absurd (inT_tag (d := 8) (e := 9) h) (by decide), e⟩
  | n + 1, d, [], y :: z :: l, _, _, e => by
    rw [hashF, hashF] at e
    exact .inr ⟨_, _, by rw [inputsF, inputsF]; simp, by rw [inputsF, inputsF]; simp, fun h => absurd (inT_tag (d := 9) (e := 8) h) (by decide), e⟩
  | n + 1, d, y :: z :: l, [t], _, _, e => by
    rw [hashF, hashF] at e
    exact .inr ⟨_, _, by rw [inputsF, inputsF]; simp, by rw [inputsF, inputsF]; simp, fun h => absurd (inT_tag (d := 8) (e := 7) h) (by decide), e⟩
  | n + 1, d, [t], y :: z :: l, _, _, e => by
    rw [hashF, hashF] at e
    exact .inr ⟨_, _, by rw [inputsF, inputsF]; simp, by rw [inputsF, inputsF]; simp, fun h => absurd (inT_tag (d := 7) (e := 8) h) (by decide), e⟩
  | n + 1, d, y :: z :: l, t :: u :: m, hl, hm, e => by
    obtain ⟨L, hL⟩ : ∃ L, L = y :: z :: l := ⟨_, rfl⟩
    obtain ⟨M, hM⟩ : ∃ M, M = t :: u :: m := ⟨_, rfl⟩
    have r0 := roots_tri n (d + 1) (filt 0 d L) (filt 0 d M) (by rw [hL]; exact hl.down 0) (by rw [hM]; exact hm.down 0)
    have r1 := roots_tri n (d + 1) (filt 1 d L) (filt 1 d M) (by rw [hL]; exact hl.down 1) (by rw [hM]; exact hm.down 1)
    rw [hashF, hashF] at e
    rw [inputsF, inputsF]
    rw [← hL, ← hM] at e ⊢
    rcases one_or (u := inT 8 [hashF n (d + 1) (filt 0 d L), hashF n (d + 1) (filt 1 d L)]) (v := inT 8 [hashF n (d + 1) (filt 0 d M), hashF n (d + 1) (filt 1 d M)])
      (l := inputsF n (d + 1) (filt 0 d L) ++ inputsF n (d + 1) (filt 1 d L) ++ [inT 8 [hashF n (d + 1) (filt 0 d L), hashF n (d + 1) (filt 1 d L)]] ++ (inputsF n (d + 1) (filt 0 d M) ++ inputsF n (d + 1) (filt 1 d M) ++ [inT 8 [hashF n (d + 1) (filt 0 d M), hashF n (d + 1) (filt 1 d M)]])) (by simp) (by simp) e with h | h
    · obtain ⟨h1, h2⟩ := innerIn_inj (hashF_32 _ _ _) (hashF_32 _ _ _) (hashF_32 _ _ _) (hashF_32 _ _ _) h
      rcases r0 h1 with g0 | g0
      · rcases r1 h2 with g1 | g1
        · refine .inl fun x => ?_
          rcases bitN_two x.1 d with hb | hb
          · have := g0 x
            rw [filt_mem, filt_mem] at this
            exact ⟨fun hx => (this.1 ⟨hx, hb⟩).1, fun hx => (this.2 ⟨hx, hb⟩).1⟩
          · have := g1 x
            rw [filt_mem, filt_mem] at this
            exact ⟨fun hx => (this.1 ⟨hx, hb⟩).1, fun hx => (this.2 ⟨hx, hb⟩).1⟩
        · refine .inr (g1.mono fun x hx => ?_)
          simp only [List.mem_append] at hx ⊢
          rcases hx with h | h
          · exact .inl (.inl (.inr h))
          · exact .inr (.inl (.inr h))
      · refine .inr (g0.mono fun x hx => ?_)
        simp only [List.mem_append] at hx ⊢
        rcases hx with h | h
        · exact .inl (.inl (.inl h))
        · exact .inr (.inl (.inl h))
    · exact .inr h

theorem filt_perm (b d : Nat) {l m : List Ent} (h : l.Perm m) : (filt b d l).Perm (filt b d m) := h.filter _
/-- Of one set of entries: of one hash, inputs and ways. -/
theorem hash_perm : ∀ (n d : Nat) (l m : List Ent), l.Perm m → Fit n d l → hashF n d l = hashF n d m ∧ inputsF n d l = inputsF n d m ∧ ∀ p, proveF n d l p = proveF n d m p
  | n, d, [], m, h, _ => by rw [h.symm.eq_nil]; exact ⟨rfl, rfl, fun _ => rfl⟩
  | n, d, [y], m, h, _ => by rw [h.symm.eq_singleton]; exact ⟨rfl, rfl, fun _ => rfl⟩
  | 0, d, y :: z :: l, m, _, hl => (hl.zero).elim
  | n + 1, d, y :: z :: l, [], h, _ => by have := h.length_eq; simp at this
  | n + 1, d, y :: z :: l, [_], h, _ => by have := h.length_eq; simp at this
  | n + 1, d, y :: z :: l, t :: u :: m, h, hl => by
    have h0 := hash_perm n (d + 1) _ _ (filt_perm 0 d h) (hl.down 0)
    have h1 := hash_perm n (d + 1) _ _ (filt_perm 1 d h) (hl.down 1)
    refine ⟨?_, ?_, fun p => ?_⟩
    · rw [hashF, hashF, h0.1, h1.1]
    · rw [inputsF, inputsF, h0.1, h1.1, h0.2.1, h1.2.1]
    · rw [proveF, proveF]
      rcases bitN_two p d with hb | hb
      · rw [hb, h0.2.2 p, h1.1]
      · rw [hb, h1.2.2 p, h0.1]
end Go.Proofs.YtnkkckmejjcfkaaGreatDoor.Sp
