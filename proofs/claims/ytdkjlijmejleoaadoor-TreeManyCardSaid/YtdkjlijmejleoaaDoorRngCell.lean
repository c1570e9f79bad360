/- A range over a function whose iterator keeps a block of cells of its own, the first one that it lays: what it promises, and the law for its caller, whose body never leaves the loop and whose variable lies in a box. (No layer is named here.) -/
import Derived.RangeFuncNested
import Derived.RangeFuncBound
import Derived.RangeFuncCalls
import Derived.RangeFuncLeaves
import Derived.Shelf.Abstract
import Derived.Test.YtdkjlijmejleoaaDoorMem
namespace Go.Proofs.YtdkjlijmejleoaaDoor.Sp
open Go Go.RowKit

/-- The iterator's promise: whatever lies in its own first block, each x of a list that S knows comes, one by one; a body keeps that block and what lay below n₀. -/
def SeqCells {α : Type} (F : Fence) (n : Nat) (P : Program) (g : Nat) (lb : Array Value) (encs : α → Array Value) (n₀ : Nat) (t : TypeId) (S : List α → Prop) (N : Nat) (w : World) : Prop :=
  ∀ (l : Nat) (J : List α → World → Prop) (W : World), Below w.heap.size w W → AbidesFrom W.heap.size J →
    (∀ s A B, J s A → A.grownBy B (some W.heap.size) → W.heap.size < A.heap.size → J s B) →
    (∀ pre x W1, J pre W1 → pre.length < N → (∃ cs, Blk W1 W.heap.size t cs) → YieldAt F (n - 1) P l (encs x) W1 fun e W' =>
      e = .returned (.bool true) ∧ J (pre ++ [x]) W' ∧ Below n₀ W1 W' ∧ ∀ cs, Blk W1 W.heap.size t cs → Blk W' W.heap.size t cs) →
    J [] W →
    CallsIn F n P g (#[.func (.yield l) #[] #[]] ++ lb) W fun e W' => (∃ v, e = .returned v) ∧ ∃ ys, S ys ∧ J ys W'

theorem blk_putObj {W : World} {g l : Nat} {t : TypeId} {cs : Array Value} (h : Blk W g t cs) (hne : g ≠ l) (o : Obj) : Blk (W.putObj l o) g t cs :=
  (World.putObj_heap_other hne).trans h

theorem range_cells {α : Type} {F : Fence} {n : Nat} {P : Program} {g : Operand} {ps : Array Tmp} {assign body : Code} {Q : Exit → Act → World → Prop} {a : Act} {w : World}
    (hro : F.round = none) (h1 : 1 ≤ n) {gf : Nat} {lb : Array Value} (hg : a.eval g = .func (.func gf) #[] lb) (hFg : F.fn gf) (eg : ∀ args w, (callFunc gf args).run P w = .ok (.enter gf args) w)
    {encs : α → Array Value} {n₀ : Nat} {t : TypeId} {S : List α → Prop} {N : Nat} {w0 : World} (hseq : SeqCells F (n - 1) P gf lb encs n₀ t S N w0) (hn₀ : n₀ ≤ w.heap.size) (hb0 : Below w0.heap.size w0 w) (hps : ∀ x, (encs x).size = ps.size)
    (I : List α → World → Prop) (hI : OwnFrom w.heap.size I) (hIc : ∀ s A B, I s A → A.grownBy B (some (w.heap.size + 2)) → w.heap.size + 2 < A.heap.size → I s B) (h0 : I [] w)
    (ob : α → Obj) (a₁ : α → Nat → Act)
    (hassign : ∀ (l : Nat) (x : α) (W : World) (K : Act → World → Prop), K (a₁ x W.heap.size) (W.alloc (ob x)) →
      assign.wpIn (F.inRound l) (n - 1 - 1) P (Exit.then K (fun _ _ _ => False)) { tmps := (ps.zip (encs x)).foldl (fun t (p, v) => t.setIfInBounds p v) a.tmps, defers := [] } W)
    (hbody : ∀ (l : Nat) (pre : List α) (x : α) (B : Nat) (W : World), w.heap.size + 2 < B → W.heap[B]? = some (ob x) → (∃ cs, Blk W (w.heap.size + 2) t cs) → I pre W → pre.length < N →
      body.wpIn (F.inRound l) (n - 1 - 1) P (fun e _ W' => e = .normal ∧ KeepsOthers W W' ∧ Below n₀ W W' ∧ (∀ cs, Blk W (w.heap.size + 2) t cs → Blk W' (w.heap.size + 2) t cs) ∧ I (pre ++ [x]) W') (a₁ x B) W)
    (hdone : ∀ (D : Nat) (ys : List α) (W : World), w.heap.size ≤ D → S ys → I ys W → W.heap[D]? = some (.deferred (some [])) → Q .normal { a with defers := { target := .collected D, args := #[] } :: a.defers } W) :
    (Code.rangeFunc g ps assign body).wpIn F n P Q a w := by
  refine wpIn_rangeFunc fun fn hfn => ?_
  rw [hro]
  -- the loop's two blocks
  obtain ⟨R, hR⟩ : ∃ R : LoopState → Loop, R = fun st => { state := st, pending := none, fn, tmps := a.tmps, params := ps, assign, body, defers := w.heap.size } := ⟨_, rfl⟩
  obtain ⟨V, hV⟩ : ∃ V, (w.alloc (.deferred (some []))).alloc (.loop (R .ready)) = V := ⟨_, rfl⟩
  have hVs : V.heap.size = w.heap.size + 2 := by rw [← hV]; simp
  have hVl : V.heap[w.heap.size + 1]? = some (.loop (R .ready)) := by
    have h9 := World.alloc_heap_new (w.alloc (.deferred (some []))) (.loop (R .ready))
    rw [World.size_alloc] at h9; rw [← hV]; exact h9
  have hVd : V.heap[w.heap.size]? = some (.deferred (some [])) := by
    rw [← hV]; exact (Below.heap_alloc _ _ _ (by simp)).trans (World.alloc_heap_new w _)
  have hVI : I [] V := by rw [← hV]; exact hI.alloc _ (hI.alloc _ h0)
  have hVb : Below w0.heap.size w0 V := by
    rw [← hV]; exact hb0.trans ((((Below.refl _ w).alloc (Nat.le_refl _) _).alloc (by simp) _).mono hb0.size)
  have hturn : ∀ {A : World} {row : Option Nat}, (∀ r, row = some r → V.heap.size ≤ r ∧ ∃ o : Obj, A.heap[r]? = some o ∧ o.isWalk = true) → ∀ k, k < w.heap.size + 2 → some k ≠ row := fun hr k hk e => by
    have := (hr k e.symm).1; omega
  refine ⟨w.heap.size + 1, [{ target := .collected w.heap.size, args := #[] }], V, { target := .fn (.func gf) lb, args := #[.func (.yield (w.heap.size + 1)) #[] #[]] }, V, gf,
    #[.func (.yield (w.heap.size + 1)) #[] #[]] ++ lb, V, ?_, ?_, ?_, ?_, fun _ => h1, ?_⟩
  · rw [← hV, hR]; exact run_enterLoop_outer _ _ _ _ _
  · simp only [resolve, hg]; simp [go_sem]
  · intro f' hf'; simp [Target.leads] at hf'; subst hf'; exact hFg
  · simp [invoke, go_sem, eg]
  refine (hseq (w.heap.size + 1) (fun pre W => I pre W ∧ W.heap[w.heap.size + 1]? = some (.loop (R .ready)) ∧ W.heap[w.heap.size]? = some (.deferred (some []))) V hVb ?_ ?_ ?_ ⟨hVI, hVl, hVd⟩).mono ?_
  · -- a walk's object turns
    rintro s A B row ⟨hi, hl, hd⟩ hgr hr
    refine ⟨hI s A B row hi hgr fun r e => ?_, ?_, ?_⟩
    · obtain ⟨h2, o, ho, hw⟩ := hr r e
      exact ⟨by omega, o, ho, Obj.not_cells_of_walk hw⟩
    · exact (hgr.block _ (Array.getElem?_eq_some_iff.1 hl).1 (hturn hr _ (by omega))).trans hl
    · exact (hgr.block _ (Array.getElem?_eq_some_iff.1 hd).1 (hturn hr _ (by omega))).trans hd
  · -- the iterator's own block turns
    rintro s A B ⟨hi, hl, hd⟩ hgr hlt
    rw [hVs] at hgr hlt
    refine ⟨hIc s A B hi hgr hlt, ?_, ?_⟩
    · exact (hgr.block _ (Array.getElem?_eq_some_iff.1 hl).1 (by simp)).trans hl
    · exact (hgr.block _ (Array.getElem?_eq_some_iff.1 hd).1 (by simp)).trans hd
  · -- one round
    rintro pre x W ⟨hi, hl, hd⟩ hlen ⟨cs0, hcs0⟩
    rw [hVs] at hcs0 ⊢
    have hlt := hcs0.lt
    have hy := run_yield (P := P) (args := encs x) hl (by rw [hR]; exact hps x)
    rw [hR] at hy
    have la : (W.alloc (ob x)).heap[w.heap.size + 1]? = some (.loop (R .ready)) := (Below.heap_alloc W _ _ (by omega)).trans hl
    have da : (W.alloc (ob x)).heap[w.heap.size]? = some (.deferred (some [])) := (Below.heap_alloc W _ _ (by omega)).trans hd
    have xa : (W.alloc (ob x)).heap[W.heap.size]? = some (ob x) := World.alloc_heap_new W _
    have ia : I pre (W.alloc (ob x)) := hI.alloc _ hi
    have sa : (W.alloc (ob x)).heap.size = W.heap.size + 1 := by simp
    have ba : Below n₀ W (W.alloc (ob x)) := (Below.refl _ _).alloc (by omega) _
    have ca : ∀ cs, Blk W (w.heap.size + 2) t cs → Blk (W.alloc (ob x)) (w.heap.size + 2) t cs := fun cs h => (Below.heap_alloc W _ _ (by omega)).trans h
    refine ⟨fn, _, assign, body, hy, roundIn_of_wpIn hfn (hassign _ x W _ ?_)⟩
    generalize W.alloc (ob x) = U at *
    refine ⟨_, run_beginRound la (by rw [hR]), ?_⟩
    have lb' : (U.putObj (w.heap.size + 1) (.loop { R .ready with state := .busy })).heap[w.heap.size + 1]? = some (.loop { R .ready with state := .busy }) := World.putObj_heap_same (by omega)
    have db : (U.putObj (w.heap.size + 1) (.loop { R .ready with state := .busy })).heap[w.heap.size]? = some (.deferred (some [])) := (World.putObj_heap_other (by omega)).trans da
    have xb : (U.putObj (w.heap.size + 1) (.loop { R .ready with state := .busy })).heap[W.heap.size]? = some (ob x) := (World.putObj_heap_other (by omega)).trans xa
    have bb : Below n₀ U (U.putObj (w.heap.size + 1) (.loop { R .ready with state := .busy })) := (Below.refl n₀ U).grown (grownBy_putObj' U _ _) (by omega) (fun k e => by cases e; omega)
    refine wpIn_mono (hbody _ pre x W.heap.size _ hlt xb ⟨cs0, blk_putObj (ca cs0 hcs0) (by omega) _⟩ (hI.putObj _ ia (by omega) la rfl) hlen) ?_
    rintro e a3 W3 ⟨rfl, k3, b3, c3, i3⟩
    have l3 := k3.same _ _ lb' rfl
    have d3 := k3.same _ _ db rfl
    have s3 : w.heap.size + 1 < W3.heap.size := (Array.getElem?_eq_some_iff.1 l3).1
    refine ⟨_, _, run_endRound none l3, rfl, ⟨hI.putObj _ i3 (by omega) l3 rfl, ?_, ?_⟩, ?_, ?_⟩
    · rw [hR]; exact World.putObj_heap_same s3
    · exact (World.putObj_heap_other (by omega)).trans d3
    · exact ((ba.trans bb).trans b3).trans ((Below.refl n₀ W3).grown (grownBy_putObj' W3 _ _) (by omega) (fun k e => by cases e; omega))
    · exact fun cs h => blk_putObj (c3 cs (blk_putObj (ca cs h) (by omega) _)) (by omega) _
  · -- behind the iterator
    rintro e W2 ⟨⟨v, rfl⟩, ys, hS, hi, hl, hd⟩
    have he := run_endLoop (P := P) hl (by rw [hR]; simp)
    rw [hR] at he
    exact ⟨none, _, he, hdone _ ys _ (Nat.le_refl _) hS (hI.putObj _ hi (by omega) hl rfl) ((World.putObj_heap_other (by omega)).trans hd)⟩
end Go.Proofs.YtdkjlijmejleoaaDoor.Sp
