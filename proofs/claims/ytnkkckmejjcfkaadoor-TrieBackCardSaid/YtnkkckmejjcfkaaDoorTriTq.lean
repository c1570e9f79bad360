/- Tries of the document's own, and how they are put into. -/
import Derived.Test.YtnkkckmejjcfkaaDoorTriEnt
import Derived.Test.YtnkkckmejjcfkaaDoorGdG
import Derived.Deep.AppendLies
namespace Go.Proofs.YtnkkckmejjcfkaaDoor.Sp
open Go Go.RowKit
set_option maxRecDepth 100000

/-- A trie of the document's own: its entries in some order. -/
def Tq (w : World) (F : Nat → Prop) (g : Nat) (l : List Ent) : Prop :=
  ∃ (E : List Ent) (al : Option Addr) (cl : Nat), l.Perm E ∧ Blk w g 63 #[.slice al E.length cl] ∧ Ents w al E.length E ∧ F g ∧ (∀ p, al = some p → F p.block ∧ p.block ≠ g) ∧ (∀ k, F k → k < w.heap.size) ∧ FitT l ∧ ∀ e ∈ l, e.2.size ≤ 140737488351232
theorem Tq.lt {w : World} {F : Nat → Prop} {g : Nat} {l : List Ent} (s : Tq w F g l) : ∀ k, F k → k < w.heap.size := by
  obtain ⟨_, _, _, _, _, _, _, _, h, _⟩ := s
  exact h
theorem Tq.fit {w : World} {F : Nat → Prop} {g : Nat} {l : List Ent} (s : Tq w F g l) : FitT l ∧ ∀ e ∈ l, e.2.size ≤ 140737488351232 := by
  obtain ⟨_, _, _, _, _, _, _, _, _, h⟩ := s
  exact h
theorem Tq.keep {w w' : World} {F : Nat → Prop} {g : Nat} {l : List Ent} (s : Tq w F g l) (hb : ∀ k, F k → w'.heap[k]? = w.heap[k]?) (hz : w.heap.size ≤ w'.heap.size) : Tq w' F g l := by
  obtain ⟨E, al, cl, h0, h1, h2, h3, h4, h5, h6⟩ := s
  exact ⟨E, al, cl, h0, (hb g h3).trans h1, h2.same (fun p hp => hb _ (h4 p hp).1), h3, h4, fun k hk => Nat.lt_of_lt_of_le (h5 k hk) hz, h6⟩
theorem Tq.perm {w : World} {F : Nat → Prop} {g : Nat} {l m : List Ent} (s : Tq w F g l) (h : l.Perm m) : Tq w F g m := by
  obtain ⟨E, al, cl, h0, h1, h2, h3, h4, h5, h6, h7⟩ := s
  exact ⟨E, al, cl, h.symm.trans h0, h1, h2, h3, h4, h5, FitT.perm h6 h, fun e he => h7 e (h.mem_iff.2 he)⟩
theorem Tq.below {w w' : World} {F : Nat → Prop} {g : Nat} {l : List Ent} (s : Tq w F g l) (hb : Below w.heap.size w w') : Tq w' F g l := s.keep (fun k hk => hb.block k (s.lt k hk)) hb.size
theorem Tq.other {w w' : World} {F G : Nat → Prop} {g : Nat} {l : List Ent} (s : Tq w F g l) (ht : Turned G w w') (hd : ∀ k, F k → ¬ G k) : Tq w' F g l := s.keep (fun k hk => ht.block k (s.lt k hk) (hd k hk)) ht.size
theorem del_snoc (l : List Ent) (p : ByteArray) (e : Ent) : delF (l ++ [e]) p = delF l p ++ (if e.1 = p then [] else [e]) := by
  unfold delF
  rw [List.filter_append]
  congr 1
  by_cases h : e.1 = p <;> simp [h]
/-- What is put so far. -/
def outF (has done : Bool) (p v : ByteArray) (l : List Ent) : List Ent := if has && done then (p, v) :: delF l p else delF l p
theorem out_skip {has done : Bool} {p v : ByteArray} {l o : List Ent} {e : Ent} (h : o.Perm (outF has done p v l)) (he : e.1 = p) : o.Perm (outF has done p v (l ++ [e])) := by
  have : delF (l ++ [e]) p = delF l p := by rw [del_snoc, if_pos he, List.append_nil]
  unfold outF at h ⊢
  rw [this]; exact h
theorem out_keep {has done : Bool} {p v : ByteArray} {l o : List Ent} {e : Ent} (h : o.Perm (outF has done p v l)) (he : e.1 ≠ p) : (o ++ [e]).Perm (outF has done p v (l ++ [e])) := by
  have : delF (l ++ [e]) p = delF l p ++ [e] := by rw [del_snoc, if_neg he]
  unfold outF at h ⊢
  rw [this]
  by_cases hc : (has && done) = true
  · rw [if_pos hc] at h ⊢
    exact h.append_right [e]
  · rw [if_neg hc] at h ⊢
    exact h.append_right [e]
theorem out_put {p v : ByteArray} {l o : List Ent} (h : o.Perm (outF true false p v l)) : (o ++ [(p, v)]).Perm (outF true true p v l) := by
  unfold outF at h ⊢
  rw [if_neg (by decide)] at h
  rw [if_pos (by decide)]
  exact (List.perm_append_comm.trans (h.cons _ |>.trans (List.Perm.refl _)))
theorem out_len (has done : Bool) (p v : ByteArray) (l : List Ent) : (outF has done p v l).length ≤ l.length + 1 := by
  unfold outF delF
  have := List.length_filter_le (fun e : Ent => !decide (e.1 = p)) l
  split
  · rw [List.length_cons]; omega
  · omega

/-- How put ends. -/
theorem tq_put {w wr : World} {F : Nat → Prop} {g : Nat} {R o : List Ent} {u x : Value} (hF : F g) (hFl : ∀ k, F k → k < w.heap.size) (hb : Blk wr g 63 #[x]) (ho : OwnE wr w.heap.size u o) (hB : Below w.heap.size w wr) (hR : R.Perm o) (hfit : FitT R) (hval : ∀ e ∈ R, e.2.size ≤ 140737488351232) :
    TgTo Tq w F g R (.tuple #[]) (.returned (.tuple #[])) (wr.setCell ⟨g, 0, none⟩ u) := by
  obtain ⟨a2, c2, rfl, hE, hfr, hc⟩ := ho.ents
  have hgw := hFl g hF
  have hne : ∀ p, a2 = some p → p.block ≠ g := fun p hp => by have := (hfr p hp).1; omega
  have hsz : (wr.setCell ⟨g, 0, none⟩ (.slice a2 o.length c2)).heap.size = wr.heap.size := by
    show (wr.heap.modify g _).size = _
    rw [Array.size_modify]
  have hbz := hB.size
  refine ⟨fun q => q = g ∨ ∃ p, a2 = some p ∧ q = p.block, rfl, ⟨o, a2, c2, hR, ?_, ?_, .inl rfl, fun p hp => ⟨.inr ⟨p, hp, rfl⟩, hne p hp⟩, ?_, hfit, hval⟩, ⟨hB.os, hB.tape, hB.output, by rw [hsz]; exact hbz, ?_⟩, ?_⟩
  · have := hb.set_ 0 (.slice a2 o.length c2)
    simpa using this
  · exact hE.same fun p hp => Below.heap_setCell wr ⟨g, 0, none⟩ _ p.block (hne p hp)
  · rintro q (rfl | ⟨p, hp, rfl⟩)
    · rw [hsz]; omega
    · rw [hsz]; exact (hfr p hp).2
  · intro k hk hnF
    have h1 : k ≠ g := fun e => hnF (by rw [e]; exact hF)
    rw [Below.heap_setCell wr ⟨g, 0, none⟩ _ k h1, hB.block k hk]
  · rintro q (rfl | ⟨p, hp, rfl⟩)
    · exact .inl hF
    · exact .inr (hfr p hp).1
theorem val_del {l : List Ent} {p : ByteArray} (h : ∀ e ∈ l, e.2.size ≤ 140737488351232) : ∀ e ∈ delF l p, e.2.size ≤ 140737488351232 := fun e he => h e (del_mem.1 he).1
theorem val_set {l : List Ent} {p v : ByteArray} (h : ∀ e ∈ l, e.2.size ≤ 140737488351232) (hv : v.size ≤ 140737488351232) : ∀ e ∈ setF l p v, e.2.size ≤ 140737488351232 := fun e he => by
  rcases List.mem_cons.1 he with rfl | he
  · exact hv
  · exact val_del h e he
theorem out_set {p v : ByteArray} {l E o : List Ent} {n : Nat} (hl : l.Perm E) (hn : E.length = n) (ho : o.Perm (outF true true p v (E.take n))) : (setF l p v).Perm o := by
  rw [List.take_of_length_le (by omega)] at ho
  exact (set_perm hl p v).trans (show (setF E p v).Perm o from ho.symm)
theorem out_del {p v : ByteArray} {l E o : List Ent} {n : Nat} {done : Bool} (hl : l.Perm E) (hn : E.length = n) (ho : o.Perm (outF false done p v (E.take n))) : (delF l p).Perm o := by
  rw [List.take_of_length_le (by omega)] at ho
  exact (del_perm hl p).trans (show (delF E p).Perm o from ho.symm)
end Go.Proofs.YtnkkckmejjcfkaaDoor.Sp
