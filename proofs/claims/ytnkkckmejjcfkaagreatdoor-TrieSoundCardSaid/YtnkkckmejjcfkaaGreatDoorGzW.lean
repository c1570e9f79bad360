/- The statements of package trie: pick. -/
import Derived.Test.YtnkkckmejjcfkaaGreatDoorGzA
import Derived.Test.YtnkkckmejjcfkaaGreatDoorGzM
import Derived.BigQuiet
import Derived.Lib.BufferWrite
import Derived.Test.YtnkkckmejjcfkaaGreatDoorTriPure
import Derived.Test.YtnkkckmejjcfkaaGreatDoorGzG
import Derived.Deep.AppendLies
namespace Go.Proofs.YtnkkckmejjcfkaaGreatDoor.Sp
open Go Go.RowKit

theorem tpick_any (c : Int) (n : Nat) (hn : 0 < n) (hn2 : n ≤ 9223372036854775807) (h0 : -9223372036854775808 ≤ c) (h1 : c ≤ 9223372036854775807) (w : World) :
    Calls Tryz.prog 23 #[.int .i64 c, .int .i64 (n : Int)] w fun e w' => e = .returned (.int .i64 (pickN c n : Int)) ∧ w = w' := by
  have hne : ¬ (n : Int) = 0 := by omega
  by_cases hc : c < 0
  · obtain ⟨d, hd⟩ : ∃ d : Nat, -(c + 1) = (d : Int) := ⟨(-(c + 1)).toNat, by omega⟩
    have hd0 : (0 : Int) ≤ (d : Int) := by omega
    have hw1 : IntKind.i64.wrap (c + 1) = c + 1 := by rw [IntKind.wrap_i64]; omega
    have hw2 : IntKind.i64.wrap (-(c + 1)) = (d : Int) := by rw [IntKind.wrap_i64]; omega
    have hr : (d : Int) % (n : Int) = ((d % n : Nat) : Int) := by omega
    have hrl := Nat.mod_lt d hn
    have hp : pickN c n = d % n := by unfold pickN; rw [if_pos hc, hd]; rfl
    rw [hp]
    obtain ⟨r, er⟩ : ∃ r, d % n = r := ⟨_, rfl⟩
    have htm : (d : Int).tmod (n : Int) = (r : Int) := by rw [Int.tmod_eq_emod_of_nonneg hd0, hr, er]
    rw [er] at hrl ⊢
    have hw3 : IntKind.i64.wrap (r : Int) = (r : Int) := by rw [IntKind.wrap_i64]; omega
    clear hr er hp
    go_enter Tryz.func23, Tryz.ntmps23
    go_wp2_with fail
    go_ret
    exact ⟨rfl, rfl⟩
  · obtain ⟨d, rfl⟩ : ∃ d : Nat, c = (d : Int) := ⟨c.toNat, by omega⟩
    have hd0 : (0 : Int) ≤ (d : Int) := by omega
    have hr : (d : Int) % (n : Int) = ((d % n : Nat) : Int) := by omega
    have hrl := Nat.mod_lt d hn
    have hp : pickN (d : Int) n = d % n := by unfold pickN; rw [if_neg hc]; rfl
    rw [hp]
    obtain ⟨r, er⟩ : ∃ r, d % n = r := ⟨_, rfl⟩
    have htm : (d : Int).tmod (n : Int) = (r : Int) := by rw [Int.tmod_eq_emod_of_nonneg hd0, hr, er]
    rw [er] at hrl ⊢
    have hw3 : IntKind.i64.wrap (r : Int) = (r : Int) := by rw [IntKind.wrap_i64]; omega
    clear hr er hp
    go_enter Tryz.func23, Tryz.ntmps23
    go_wp2_with fail
    go_ret
    exact ⟨rfl, rfl⟩
end Go.Proofs.YtnkkckmejjcfkaaGreatDoor.Sp

/- The statements of package trie: one of nine keys. -/
namespace Go.Proofs.YtnkkckmejjcfkaaGreatDoor.Sp
open Go Go.RowKit
set_option maxRecDepth 100000

theorem key_any (c : Int) (h0 : -9223372036854775808 ≤ c) (h1 : c ≤ 9223372036854775807) (w : World) :
    Calls Tryz.prog 11 #[.int .i64 c] w fun e w' => e = .returned (.string (keyOf c)) ∧ Below w.heap.size w w' := by
  have HP := Lib.hid (tpick_any c 9 (by omega) (by omega) h0 h1)
  have hq := pickN_lt c 9 (by omega)
  unfold keyOf
  obtain ⟨q, eq⟩ : ∃ q, pickN c 9 = q := ⟨_, rfl⟩
  rw [eq] at HP hq ⊢
  obtain ⟨r, hr⟩ : ∃ r : Nat, 97 + q = r := ⟨_, rfl⟩
  have hri : (97 : Int) + (q : Int) = (r : Int) := by omega
  have hrw : IntKind.i64.wrap (r : Int) = (r : Int) := by rw [IntKind.wrap_i64]; omega
  have hru : IntKind.u8.wrap (r : Int) = (r : Int) := by rw [IntKind.wrap_u8']; omega
  have hu : (UInt8.ofNat r).toNat = r := by rw [UInt8.toNat_ofNat']; omega
  have hv : byteVs [UInt8.ofNat r] = [.int .u8 (r : Int)] := by show [byteV _] = _; unfold byteV; rw [hu]
  have hb : Blk (w.alloc (.cells #[.int .u8 (r : Int)] 5)) w.heap.size 5 (byteVs [UInt8.ofNat r]).toArray := by rw [hv]; exact Blk.new _ _ _
  have hca := run_text_of_blk (n := 1) (cap := 1) hb rfl
  have HB := Lib.hid ((Below.refl w.heap.size w).alloc (Nat.le_refl _) (.cells #[.int .u8 (r : Int)] 5))
  have HR := Lib.hid (show keyC q = ⟨[UInt8.ofNat r].toArray⟩ from by rw [← hr]; rfl)
  rw [HR.out]
  clear eq hr hu hv hb
  go_enter Tryz.func11, Tryz.ntmps11
  go_wp2_with fail
  refine (HP.out w).mono ?_
  rintro e w1 ⟨rfl, rfl⟩
  go_wp2_with fail
  go_ret
  exact ⟨rfl, HB.out⟩
end Go.Proofs.YtnkkckmejjcfkaaGreatDoor.Sp

/- Slices of the document's own entries. -/
namespace Go.Proofs.YtnkkckmejjcfkaaGreatDoor.Sp
open Go Go.RowKit

def entV (l : List Ent) : List Value := l.flatMap fun e => [.string e.1, .string e.2]
theorem entV_nil : entV [] = [] := rfl
theorem entV_append (a b : List Ent) : entV (a ++ b) = entV a ++ entV b := List.flatMap_append
theorem entV_one (e : Ent) : entV [e] = [.string e.1, .string e.2] := rfl
theorem entV_length (l : List Ent) : (entV l).length = 2 * l.length := by
  induction l with
  | nil => rfl
  | cons e l ih => rw [show entV (e :: l) = [.string e.1, .string e.2] ++ entV l from rfl, List.length_append, ih, List.length_cons]; simp; omega
theorem entV_at : ∀ (l : List Ent) (j : Nat) (e : Ent), l[j]? = some e → (entV l)[2 * j]? = some (.string e.1) ∧ (entV l)[2 * j + 1]? = some (.string e.2)
  | [], j, e, h => by simp at h
  | x :: l, 0, e, h => by
    simp at h
    subst h
    exact ⟨rfl, rfl⟩
  | x :: l, j + 1, e, h => by
    have h' : l[j]? = some e := by simpa using h
    obtain ⟨h1, h2⟩ := entV_at l j e h'
    have e0 : entV (x :: l) = .string x.1 :: .string x.2 :: entV l := rfl
    rw [e0, show 2 * (j + 1) = 2 * j + 1 + 1 by omega]
    exact ⟨h1, h2⟩
/-- Entries in memory. -/
def Ents (w : World) (a : Option Addr) (n : Nat) (l : List Ent) : Prop :=
  l.length = n ∧ (0 < n → ∃ b off, a = some ⟨b, off, none⟩ ∧ ∀ (j : Nat) (e : Ent), l[j]? = some e → w.cell? ⟨b, off + j * 2, none⟩ = some (.string e.1) ∧ w.cell? ⟨b, off + j * 2 + 1, none⟩ = some (.string e.2))
theorem Ents.same {w w' : World} {a : Option Addr} {n : Nat} {l : List Ent} (h : Ents w a n l) (hb : ∀ p, a = some p → w'.heap[p.block]? = w.heap[p.block]?) : Ents w' a n l := by
  refine ⟨h.1, fun hn => ?_⟩
  obtain ⟨b, off, e, hc⟩ := h.2 hn
  have hcell : ∀ i, w'.cell? ⟨b, i, none⟩ = w.cell? ⟨b, i, none⟩ := fun i => World.cell?_of_block (w := w) (w' := w') (a := ⟨b, i, none⟩) (hb ⟨b, off, none⟩ e)
  exact ⟨b, off, e, fun j x hj => ⟨(hcell _).trans (hc j x hj).1, (hcell _).trans (hc j x hj).2⟩⟩
theorem Ents.below {w w' : World} {a : Option Addr} {n : Nat} {l : List Ent} (h : Ents w a n l) (hb : Below w.heap.size w w') : Ents w' a n l := by
  rcases Nat.eq_zero_or_pos n with h0 | h0
  · exact ⟨h.1, fun hp => by omega⟩
  · obtain ⟨b, off, e, hc⟩ := h.2 h0
    refine h.same fun p hp => hb.block _ ?_
    rw [e] at hp; injection hp with hp; subst hp
    obtain ⟨x, hx⟩ : ∃ x, l[0]? = some x := ⟨_, List.getElem?_eq_getElem (by rw [h.1]; exact h0)⟩
    exact block_lt_of_cell (hc 0 x hx).1
/-- Entries of a call's own. -/
def OwnE (w : World) (base : Nat) (v : Value) (l : List Ent) : Prop := w.ownsRow base 70 2 v l.length (entV l)
theorem infoEnt : (Tryz.prog.info? 70).map (fun i => (i.zero, i.size, i.bytes)) = some (some (.agg #[.string .empty, .string .empty]), 2, 32) := by kernel_rfl
theorem OwnE.ents {w : World} {base : Nat} {v : Value} {l : List Ent} (h : OwnE w base v l) : ∃ a c, v = .slice a l.length c ∧ Ents w a l.length l ∧ (∀ p, a = some p → base ≤ p.block ∧ p.block < w.heap.size) ∧ l.length ≤ c := by
  rcases h.2 with ⟨h1, h2⟩ | ⟨g, cap, cur, h1, _, _, hc, _⟩
  · exact ⟨none, 0, by rw [h1, h2], ⟨rfl, fun hp => by omega⟩, (fun p hp => by cases hp), by omega⟩
  · refine ⟨_, _, h1, ⟨rfl, fun hp => ⟨g, 0, rfl, fun j e hj => ?_⟩⟩, fun p hp => ?_, hc⟩
    · have hat : ∀ i u, (entV l)[i]? = some u → w.cell? ⟨g, 0 + i, none⟩ = some u := fun i u hu => by
        have hcl := World.ownsRow.cells h (g := g) (by rw [h1]; rfl) i u hu
        rwa [show (⟨g, 0, none⟩ : Addr).add i = ⟨g, 0 + i, none⟩ from by unfold Addr.add; split <;> simp_all] at hcl
      obtain ⟨h2, h3⟩ := entV_at l j e hj
      rw [Nat.mul_comm] at h2 h3
      have h4 := hat _ _ h3
      rw [← Nat.add_assoc] at h4
      exact ⟨hat _ _ h2, h4⟩
    · injection hp with hp; subst hp
      exact World.ownsRow.lt h g (by rw [h1]; rfl)
/-- What hands back entries in memory of its own. -/
def EntsTo (l : List Ent) (w : World) (e : Ending) (w' : World) : Prop :=
  ∃ (a : Option Addr) (c : Nat), e = .returned (.slice a l.length c) ∧ Ents w' a l.length l ∧ Below w.heap.size w w' ∧ (∀ p, a = some p → w.heap.size ≤ p.block ∧ p.block < w'.heap.size) ∧ l.length ≤ c
theorem filt_snoc (b d : Nat) (l : List Ent) (e : Ent) : filt b d (l ++ [e]) = filt b d l ++ (if bitN e.1 d = b then [e] else []) := by
  unfold filt
  rw [List.filter_append]
  congr 1
  by_cases h : bitN e.1 d = b <;> simp [h]
theorem filt_len (b d : Nat) (l : List Ent) : (filt b d l).length ≤ l.length := List.length_filter_le _ _
end Go.Proofs.YtnkkckmejjcfkaaGreatDoor.Sp

/- Tries of the document's own, and how they are put into. -/
namespace Go.Proofs.YtnkkckmejjcfkaaGreatDoor.Sp
open Go Go.RowKit
set_option maxRecDepth 100000

/-- A trie of the document's own: its entries in some order. -/
def Tq (w : World) (F : Nat → Prop) (g : Nat) (l : List Ent) : Prop :=
  ∃ (E : List Ent) (al : Option Addr) (cl : Nat), l.Perm E ∧ Blk w g 60 #[.slice al E.length cl] ∧ Ents w al E.length E ∧ F g ∧ (∀ p, al = some p → F p.block ∧ p.block ≠ g) ∧ (∀ k, F k → k < w.heap.size) ∧ FitT l ∧ ∀ e ∈ l, e.2.size ≤ 140737488351232
theorem Tq.lt {w : World} {F : Nat → Prop} {g : Nat} {l : List Ent} (s : Tq w F g l) : ∀ k, F k → k < w.heap.size := by
  obtain ⟨_, _, _, _, _, _, _, _, h, _⟩ := s
  exact h
theorem Tq.fit {w : World} {F : Nat → Prop} {g : Nat} {l : List Ent} (s : Tq w F g l) : FitT l ∧ ∀ e ∈ l, e.2.size ≤ 140737488351232 := by
  obtain ⟨_, _, _, _, _, _, _, _, _, h⟩ := s
  exact h
theorem Tq.keep {w w' : World} {F : Nat → Prop} {g : Nat} {l : List Ent} (s : Tq w F g l) (hb : ∀ k, F k → w'.heap[k]? = w.heap[k]?) (hz : w.heap.size ≤ w'.heap.size) : Tq w' F g l := by
  obtain ⟨E, al, cl, h0, h1, h2, h3, h4, h5, h6⟩ := s
  exact ⟨E, al, cl, h0, (hb g h3).trans h1, h2.same (fun p hp => hb _ (h4 p hp).1), h3, h4, fun k hk => Nat.lt_of_lt_of_le (h5 k hk) hz, h6⟩
theorem Tq.perm {w : World} {F : Nat → Prop} {g : Nat} {l m : List Ent} (s : Tq w F g l) (h : l.Perm m) : Tq w F g m := by
  obtain ⟨E, al, cl, h0, h1, h2, h3, h4, h5, h6, h7⟩ := s
  exact ⟨E, al, cl, h.symm.trans h0, h1, h2, h3, h4, h5, FitT.perm h6 h, fun e he => h7 e (h.mem_iff.2 he)⟩
theorem Tq.below {w w' : World} {F : Nat → Prop} {g : Nat} {l : List Ent} (s : Tq w F g l) (hb : Below w.heap.size w w') : Tq w' F g l := s.keep (fun k hk => hb.block k (s.lt k hk)) hb.size
theorem Tq.other {w w' : World} {F G : Nat → Prop} {g : Nat} {l : List Ent} (s : Tq w F g l) (ht : Turned G w w') (hd : ∀ k, F k → ¬ G k) : Tq w' F g l := s.keep (fun k hk => ht.block k (s.lt k hk) (hd k hk)) ht.size
theorem del_snoc (l : List Ent) (p : ByteArray) (e : Ent) : delF (l ++ [e]) p = delF l p ++ (if e.1 = p then [] else [e]) := by
  unfold delF
  rw [List.filter_append]
  congr 1
  by_cases h : e.1 = p <;> simp [h]
/-- What is put so far. -/
def outF (has done : Bool) (p v : ByteArray) (l : List Ent) : List Ent := if has && done then (p, v) :: delF l p else delF l p
theorem out_skip {has done : Bool} {p v : ByteArray} {l o : List Ent} {e : Ent} (h : o.Perm (outF has done p v l)) (he : e.1 = p) : o.Perm (outF has done p v (l ++ [e])) := by
  have : delF (l ++ [e]) p = delF l p := by rw [del_snoc, if_pos he, List.append_nil]
  unfold outF at h ⊢
  rw [this]; exact h
theorem out_keep {has done : Bool} {p v : ByteArray} {l o : List Ent} {e : Ent} (h : o.Perm (outF has done p v l)) (he : e.1 ≠ p) : (o ++ [e]).Perm (outF has done p v (l ++ [e])) := by
  have : delF (l ++ [e]) p = delF l p ++ [e] := by rw [del_snoc, if_neg he]
  unfold outF at h ⊢
  rw [this]
  by_cases hc : (has && done) = true
  · rw [if_pos hc] at h ⊢
    exact h.append_right [e]
  · rw [if_neg hc] at h ⊢
    exact h.append_right [e]
theorem out_put {p v : ByteArray} {l o : List Ent} (h : o.Perm (outF true false p v l)) : (o ++ [(p, v)]).Perm (outF true true p v l) := by
  unfold outF at h ⊢
  rw [if_neg (by decide)] at h
  rw [if_pos (by decide)]
  exact (List.perm_append_comm.trans (h.cons _ |>.trans (List.Perm.refl _)))
theorem out_len (has done : Bool) (p v : ByteArray) (l : List Ent) : (outF has done p v l).length ≤ l.length + 1 := by
  unfold outF delF
  have := List.length_filter_le (fun e : Ent => !decide (e.1 = p)) l
  split
  · rw [List.length_cons]; omega
  · omega

/-- How put ends. -/
theorem tq_put {w wr : World} {F : Nat → Prop} {g : Nat} {R o : List Ent} {u x : Value} (hF : F g) (hFl : ∀ k, F k → k < w.heap.size) (hb : Blk wr g 60 #[x]) (ho : OwnE wr w.heap.size u o) (hB : Below w.heap.size w wr) (hR : R.Perm o) (hfit : FitT R) (hval : ∀ e ∈ R, e.2.size ≤ 140737488351232) :
    TgTo Tq w F g R (.tuple #[]) (.returned (.tuple #[])) (wr.setCell ⟨g, 0, none⟩ u) := by
  obtain ⟨a2, c2, rfl, hE, hfr, hc⟩ := ho.ents
  have hgw := hFl g hF
  have hne : ∀ p, a2 = some p → p.block ≠ g := fun p hp => by have := (hfr p hp).1; omega
  have hsz : (wr.setCell ⟨g, 0, none⟩ (.slice a2 o.length c2)).heap.size = wr.heap.size := by
    show (wr.heap.modify g _).size = _
    rw [Array.size_modify]
  have hbz := hB.size
  refine ⟨fun q => q = g ∨ ∃ p, a2 = some p ∧ q = p.block, rfl, ⟨o, a2, c2, hR, ?_, ?_, .inl rfl, fun p hp => ⟨.inr ⟨p, hp, rfl⟩, hne p hp⟩, ?_, hfit, hval⟩, ⟨hB.os, hB.tape, hB.output, by rw [hsz]; exact hbz, ?_⟩, ?_⟩
  · have := hb.set_ 0 (.slice a2 o.length c2)
    simpa using this
  · exact hE.same fun p hp => Below.heap_setCell wr ⟨g, 0, none⟩ _ p.block (hne p hp)
  · rintro q (rfl | ⟨p, hp, rfl⟩)
    · rw [hsz]; omega
    · rw [hsz]; exact (hfr p hp).2
  · intro k hk hnF
    have h1 : k ≠ g := fun e => hnF (by rw [e]; exact hF)
    rw [Below.heap_setCell wr ⟨g, 0, none⟩ _ k h1, hB.block k hk]
  · rintro q (rfl | ⟨p, hp, rfl⟩)
    · exact .inl hF
    · exact .inr (hfr p hp).1
theorem val_del {l : List Ent} {p : ByteArray} (h : ∀ e ∈ l, e.2.size ≤ 140737488351232) : ∀ e ∈ delF l p, e.2.size ≤ 140737488351232 := fun e he => h e (del_mem.1 he).1
theorem val_set {l : List Ent} {p v : ByteArray} (h : ∀ e ∈ l, e.2.size ≤ 140737488351232) (hv : v.size ≤ 140737488351232) : ∀ e ∈ setF l p v, e.2.size ≤ 140737488351232 := fun e he => by
  rcases List.mem_cons.1 he with rfl | he
  · exact hv
  · exact val_del h e he
theorem out_set {p v : ByteArray} {l E o : List Ent} {n : Nat} (hl : l.Perm E) (hn : E.length = n) (ho : o.Perm (outF true true p v (E.take n))) : (setF l p v).Perm o := by
  rw [List.take_of_length_le (by omega)] at ho
  exact (set_perm hl p v).trans (show (setF E p v).Perm o from ho.symm)
theorem out_del {p v : ByteArray} {l E o : List Ent} {n : Nat} {done : Bool} (hl : l.Perm E) (hn : E.length = n) (ho : o.Perm (outF false done p v (E.take n))) : (delF l p).Perm o := by
  rw [List.take_of_length_le (by omega)] at ho
  exact (del_perm hl p).trans (show (delF E p).Perm o from ho.symm)
end Go.Proofs.YtnkkckmejjcfkaaGreatDoor.Sp
