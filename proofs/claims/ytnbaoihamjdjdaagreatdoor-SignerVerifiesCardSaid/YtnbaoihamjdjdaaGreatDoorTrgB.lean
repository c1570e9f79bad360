/- A range over a function whose iterator keeps a block of cells of its own, the first one that it lays: what it promises, and the law for its caller, whose body never leaves the loop and whose variable lies in a box. (No layer is named here.) -/
import Derived.RangeFuncNested
import Derived.RangeFuncBound
import Derived.RangeFuncCalls
import Derived.RangeFuncLeaves
import Derived.Shelf.Abstract
import Derived.Test.YtnbaoihamjdjdaaGreatDoorMem
import Derived.Test.YtnbaoihamjdjdaaGreatDoorTrgA
import Derived.WalkKit
import Derived.OwnWalkIn
import Derived.TacticsInMore
import Derived.LoopNIn
import Derived.LoopIn
import Derived.Shelf.RegionOpen
import Derived.RegionIn
import Derived.Stop.RegionWithIn
import Derived.Test.YtnbaoihamjdjdaaGreatDoorTreB
import Derived.Test.YtnbaoihamjdjdaaGreatDoorTreR
namespace Go.Proofs.YtnbaoihamjdjdaaGreatDoor.Sp
open Go Go.RowKit
set_option maxRecDepth 100000

/-- The iterator's promise: whatever lies in its own first block, each x of a list that S knows comes, one by one; a body keeps that block and what lay below n₀. -/
def SeqCells {α : Type} (F : Fence) (n : Nat) (P : Program) (g : Nat) (lb : Array Value) (encs : α → Array Value) (n₀ : Nat) (t : TypeId) (S : List α → Prop) (N : Nat) (w : World) : Prop :=
  ∀ (l : Nat) (J : List α → World → Prop) (W : World), Below w.heap.size w W → AbidesFrom W.heap.size J →
    (∀ s A B, J s A → A.grownBy B (some W.heap.size) → W.heap.size < A.heap.size → J s B) →
    (∀ pre x W1, J pre W1 → pre.length < N → (∃ cs, Blk W1 W.heap.size t cs) → YieldAt F (n - 1) P l (encs x) W1 fun e W' =>
      e = .returned (.bool true) ∧ J (pre ++ [x]) W' ∧ Below n₀ W1 W' ∧ ∀ cs, Blk W1 W.heap.size t cs → Blk W' W.heap.size t cs) →
    J [] W →
    CallsIn F n P g (#[.func (.yield l) #[] #[]] ++ lb) W fun e W' => (∃ v, e = .returned v) ∧ ∃ ys, S ys ∧ J ys W'

theorem blk_putObj {W : World} {g l : Nat} {t : TypeId} {cs : Array Value} (h : Blk W g t cs) (hne : g ≠ l) (o : Obj) : Blk (W.putObj l o) g t cs :=
  (World.putObj_heap_other hne).trans h

theorem range_cells {α : Type} {F : Fence} {n : Nat} {P : Program} {g : Operand} {ps : Array Tmp} {assign body : Code} {Q : Exit → Act → World → Prop} {a : Act} {w : World}
    (hro : F.round = none) (h1 : 1 ≤ n) {gf : Nat} {lb : Array Value} (hg : a.eval g = .func (.func gf) #[] lb) (hFg : F.fn gf) (eg : ∀ args w, (callFunc gf args).run P w = .ok (.enter gf args) w)
    {encs : α → Array Value} {n₀ : Nat} {t : TypeId} {S : List α → Prop} {N : Nat} {w0 : World} (hseq : SeqCells F (n - 1) P gf lb encs n₀ t S N w0) (hn₀ : n₀ ≤ w.heap.size) (hb0 : Below w0.heap.size w0 w) (hps : ∀ x, (encs x).size = ps.size)
    (I : List α → World → Prop) (hI : OwnFrom w.heap.size I) (hIc : ∀ s A B, I s A → A.grownBy B (some (w.heap.size + 2)) → w.heap.size + 2 < A.heap.size → I s B) (h0 : I [] w)
    (ob : α → Obj) (a₁ : α → Nat → Act)
    (hassign : ∀ (l : Nat) (x : α) (W : World) (K : Act → World → Prop), K (a₁ x W.heap.size) (W.alloc (ob x)) →
      assign.wpIn (F.inRound l) (n - 1 - 1) P (Exit.then K (fun _ _ _ => False)) { tmps := (ps.zip (encs x)).foldl (fun t (p, v) => t.setIfInBounds p v) a.tmps, defers := [] } W)
    (hbody : ∀ (l : Nat) (pre : List α) (x : α) (B : Nat) (W : World), w.heap.size + 2 < B → W.heap[B]? = some (ob x) → (∃ cs, Blk W (w.heap.size + 2) t cs) → I pre W → pre.length < N →
      body.wpIn (F.inRound l) (n - 1 - 1) P (fun e _ W' => e = .normal ∧ KeepsOthers W W' ∧ Below n₀ W W' ∧ (∀ cs, Blk W (w.heap.size + 2) t cs → Blk W' (w.heap.size + 2) t cs) ∧ I (pre ++ [x]) W') (a₁ x B) W)
    (hdone : ∀ (D : Nat) (ys : List α) (W : World), w.heap.size ≤ D → S ys → I ys W → W.heap[D]? = some (.deferred (some [])) → Q .normal { a with defers := { target := .collected D, args := #[] } :: a.defers } W) :
    (Code.rangeFunc g ps assign body).wpIn F n P Q a w := by
  refine wpIn_rangeFunc fun fn hfn => ?_
  rw [hro]
  -- the loop's two blocks
  obtain ⟨R, hR⟩ : ∃ R : LoopState → Loop, R = fun st => { state := st, pending := none, fn, tmps := a.tmps, params := ps, assign, body, defers := w.heap.size } := ⟨_, rfl⟩
  obtain ⟨V, hV⟩ : ∃ V, (w.alloc (.deferred (some []))).alloc (.loop (R .ready)) = V := ⟨_, rfl⟩
  have hVs : V.heap.size = w.heap.size + 2 := by rw [← hV]; simp
  have hVl : V.heap[w.heap.size + 1]? = some (.loop (R .ready)) := by
    have h9 := World.alloc_heap_new (w.alloc (.deferred (some []))) (.loop (R .ready))
    rw [World.size_alloc] at h9; rw [← hV]; exact h9
  have hVd : V.heap[w.heap.size]? = some (.deferred (some [])) := by
    rw [← hV]; exact (Below.heap_alloc _ _ _ (by simp)).trans (World.alloc_heap_new w _)
  have hVI : I [] V := by rw [← hV]; exact hI.alloc _ (hI.alloc _ h0)
  have hVb : Below w0.heap.size w0 V := by
    rw [← hV]; exact hb0.trans ((((Below.refl _ w).alloc (Nat.le_refl _) _).alloc (by simp) _).mono hb0.size)
  have hturn : ∀ {A : World} {row : Option Nat}, (∀ r, row = some r → V.heap.size ≤ r ∧ ∃ o : Obj, A.heap[r]? = some o ∧ o.isWalk = true) → ∀ k, k < w.heap.size + 2 → some k ≠ row := fun hr k hk e => by
    have := (hr k e.symm).1; omega
  refine ⟨w.heap.size + 1, [{ target := .collected w.heap.size, args := #[] }], V, { target := .fn (.func gf) lb, args := #[.func (.yield (w.heap.size + 1)) #[] #[]] }, V, gf,
    #[.func (.yield (w.heap.size + 1)) #[] #[]] ++ lb, V, ?_, ?_, ?_, ?_, fun _ => h1, ?_⟩
  · rw [← hV, hR]; exact run_enterLoop_outer _ _ _ _ _
  · simp only [resolve, hg]; simp [go_sem]
  · intro f' hf'; simp [Target.leads] at hf'; subst hf'; exact hFg
  · simp [invoke, go_sem, eg]
  refine (hseq (w.heap.size + 1) (fun pre W => I pre W ∧ W.heap[w.heap.size + 1]? = some (.loop (R .ready)) ∧ W.heap[w.heap.size]? = some (.deferred (some []))) V hVb ?_ ?_ ?_ ⟨hVI, hVl, hVd⟩).mono ?_
  · -- a walk's object turns
    rintro s A B row ⟨hi, hl, hd⟩ hgr hr
    refine ⟨hI s A B row hi hgr fun r e => ?_, ?_, ?_⟩
    · obtain ⟨h2, o, ho, hw⟩ := hr r e
      exact ⟨by omega, o, ho, Obj.not_cells_of_walk hw⟩
    · exact (hgr.block _ (Array.getElem?_eq_some_iff.1 hl).1 (hturn hr _ (by omega))).trans hl
    · exact (hgr.block _ (Array.getElem?_eq_some_iff.1 hd).1 (hturn hr _ (by omega))).trans hd
  · -- the iterator's own block turns
    rintro s A B ⟨hi, hl, hd⟩ hgr hlt
    rw [hVs] at hgr hlt
    refine ⟨hIc s A B hi hgr hlt, ?_, ?_⟩
    · exact (hgr.block _ (Array.getElem?_eq_some_iff.1 hl).1 (by simp)).trans hl
    · exact (hgr.block _ (Array.getElem?_eq_some_iff.1 hd).1 (by simp)).trans hd
  · -- one round
    rintro pre x W ⟨hi, hl, hd⟩ hlen ⟨cs0, hcs0⟩
    rw [hVs] at hcs0 ⊢
    have hlt := hcs0.lt
    have hy := run_yield (P := P) (args := encs x) hl (by rw [hR]; exact hps x)
    rw [hR] at hy
    have la : (W.alloc (ob x)).heap[w.heap.size + 1]? = some (.loop (R .ready)) := (Below.heap_alloc W _ _ (by omega)).trans hl
    have da : (W.alloc (ob x)).heap[w.heap.size]? = some (.deferred (some [])) := (Below.heap_alloc W _ _ (by omega)).trans hd
    have xa : (W.alloc (ob x)).heap[W.heap.size]? = some (ob x) := World.alloc_heap_new W _
    have ia : I pre (W.alloc (ob x)) := hI.alloc _ hi
    have sa : (W.alloc (ob x)).heap.size = W.heap.size + 1 := by simp
    have ba : Below n₀ W (W.alloc (ob x)) := (Below.refl _ _).alloc (by omega) _
    have ca : ∀ cs, Blk W (w.heap.size + 2) t cs → Blk (W.alloc (ob x)) (w.heap.size + 2) t cs := fun cs h => (Below.heap_alloc W _ _ (by omega)).trans h
    refine ⟨fn, _, assign, body, hy, roundIn_of_wpIn hfn (hassign _ x W _ ?_)⟩
    generalize W.alloc (ob x) = U at *
    refine ⟨_, run_beginRound la (by rw [hR]), ?_⟩
    have lb' : (U.putObj (w.heap.size + 1) (.loop { R .ready with state := .busy })).heap[w.heap.size + 1]? = some (.loop { R .ready with state := .busy }) := World.putObj_heap_same (by omega)
    have db : (U.putObj (w.heap.size + 1) (.loop { R .ready with state := .busy })).heap[w.heap.size]? = some (.deferred (some [])) := (World.putObj_heap_other (by omega)).trans da
    have xb : (U.putObj (w.heap.size + 1) (.loop { R .ready with state := .busy })).heap[W.heap.size]? = some (ob x) := (World.putObj_heap_other (by omega)).trans xa
    have bb : Below n₀ U (U.putObj (w.heap.size + 1) (.loop { R .ready with state := .busy })) := (Below.refl n₀ U).grown (grownBy_putObj' U _ _) (by omega) (fun k e => by cases e; omega)
    refine wpIn_mono (hbody _ pre x W.heap.size _ hlt xb ⟨cs0, blk_putObj (ca cs0 hcs0) (by omega) _⟩ (hI.putObj _ ia (by omega) la rfl) hlen) ?_
    rintro e a3 W3 ⟨rfl, k3, b3, c3, i3⟩
    have l3 := k3.same _ _ lb' rfl
    have d3 := k3.same _ _ db rfl
    have s3 : w.heap.size + 1 < W3.heap.size := (Array.getElem?_eq_some_iff.1 l3).1
    refine ⟨_, _, run_endRound none l3, rfl, ⟨hI.putObj _ i3 (by omega) l3 rfl, ?_, ?_⟩, ?_, ?_⟩
    · rw [hR]; exact World.putObj_heap_same s3
    · exact (World.putObj_heap_other (by omega)).trans d3
    · exact ((ba.trans bb).trans b3).trans ((Below.refl n₀ W3).grown (grownBy_putObj' W3 _ _) (by omega) (fun k e => by cases e; omega))
    · exact fun cs h => blk_putObj (c3 cs (blk_putObj (ca cs h) (by omega) _)) (by omega) _
  · -- behind the iterator
    rintro e W2 ⟨⟨v, rfl⟩, ys, hS, hi, hl, hd⟩
    have he := run_endLoop (P := P) hl (by rw [hR]; simp)
    rw [hR] at he
    exact ⟨none, _, he, hdone _ ys _ (Nat.le_refl _) hS (hI.putObj _ hi (by omega) hl rfl) ((World.putObj_heap_other (by omega)).trans hd)⟩
end Go.Proofs.YtnbaoihamjdjdaaGreatDoor.Sp

/- Package tree: the element above two, with its text; elements in memory. -/
namespace Go.Proofs.YtnbaoihamjdjdaaGreatDoor.Sp
open Go Go.RowKit
set_option maxRecDepth 100000

/-- An element: its value, and the text that was hashed for it. -/
def ndV (v t : ByteArray) : Value := .agg #[.string v, .string t]

theorem nodeTwo : (Tryz.prog.info? 90).map (·.size) = some 2 := by kernel_rfl
set_option maxHeartbeats 1000000 in
theorem over_any (a s b t : ByteArray) (w : World) (h : a.size + b.size ≤ 281474976710647) (hT : Tab w) :
    Calls Tryz.prog 87 #[ndV a s, ndV b t] w fun e w' => e = .returned (ndV (nodeB a b) (inpB a b)) ∧ Below w.heap.size w w' := by
  have HL := Lib.hid (show len2 [a, b] 2 ≤ 281474976710656 from by rw [len2_two_]; omega)
  have HT := Lib.hid hT
  unfold ndV
  obtain ⟨I, hI⟩ : ∃ I, inpB a b = I := ⟨_, rfl⟩
  obtain ⟨R, hR⟩ : ∃ R, nodeB a b = R := ⟨_, rfl⟩
  have HI := Lib.hid hI
  have HR := Lib.hid (show R = ⟨(sum I.data.toList).toArray⟩ from by rw [← hR, node_sum, hI]; rfl)
  have hIs : I.size ≤ 9223372036854775000 := by rw [← hI, inpB_size]; omega
  rw [hI, hR]
  clear hT h hI hR
  go_enter Tryz.func87, Tryz.ntmps87
  go_wp2_with fail
  obtain ⟨W4, hW4⟩ : ∃ W4, ((((w.alloc (.cells #[.string a, .string s] 90)).alloc (.cells #[.string b, .string t] 90)).alloc (.cells #[.string { data := #[] }, .string { data := #[] }] 90)).alloc (.cells #[.string a, .string b] 9)) = W4 := ⟨_, rfl⟩
  have B4 := Lib.hid (show Below w.heap.size w W4 from by
    rw [← hW4]; exact ((((Below.refl _ _).alloc (Nat.le_refl _) _).alloc (by simp) _).alloc (by simp; omega) _).alloc (by simp; omega) _)
  have T4 := Lib.hid (HT.out.below B4.out HT.out.lt)
  have R4 := Lib.hid (show Blk W4 (w.heap.size + 1 + 1) 90 #[.string { data := #[] }, .string { data := #[] }] from by
    have h9 := (Blk.new ((w.alloc (.cells #[.string a, .string s] 90)).alloc (.cells #[.string b, .string t] 90)) 90 #[.string { data := #[] }, .string { data := #[] }]).alloc (.cells #[.string a, .string b] 9)
    rw [World.size_alloc, World.size_alloc] at h9; rw [← hW4]; exact h9)
  have S4 := Lib.hid (show Strs W4 (some ⟨w.heap.size + 1 + 1 + 1, 0, none⟩) 2 [a, b] from by
    have h9 := strs_of_blk_ (ss := [a, b]) (n := 2) (Blk.new (((w.alloc (.cells #[.string a, .string s] 90)).alloc (.cells #[.string b, .string t] 90)).alloc (.cells #[.string { data := #[] }, .string { data := #[] }] 90)) 9 _) rfl
    rw [World.size_alloc, World.size_alloc, World.size_alloc] at h9; rw [← hW4]; exact h9)
  rw [hW4]
  clear hW4
  refine (input_any 5 _ 2 2 [a, b] _ S4.out (by omega) HL.out).mono ?_
  rintro e w5 ⟨rfl, h5⟩
  rw [show (⟨(inB 5 [a, b]).toArray⟩ : ByteArray) = I from HI.out]
  have B5 := Lib.hid (B4.out.trans (h5.mono B4.out.size))
  have T5 := Lib.hid (T4.out.below h5 T4.out.lt)
  have R5 := Lib.hid (R4.out.below h5 R4.out.lt)
  clear h5
  go_wp2_with fail
  refine (sum_any I hIs _ T5.out).mono ?_
  rintro e w6 ⟨rfl, h6⟩
  rw [← HR.out]
  have B6 := Lib.hid (B5.out.trans (h6.mono B5.out.size))
  have r6 := R5.out.below h6 R5.out.lt
  have R6 := Lib.hid r6
  have c0 := r6.cell 0
  have c1 := r6.cell 1
  have f0 := r6.frozen 0
  have f1 := r6.frozen 1
  simp only [List.getElem?_toArray, List.getElem?_cons_zero, List.getElem?_cons_succ] at c0 c1
  clear h6 r6
  go_wp2_with fail
  refine ret_agg rfl (w.heap.size + 1 + 1) 90 #[.string R, .string I] _ rfl ((R6.out.set_ 0 _).set_ 1 _) rfl Tryz.underlying90 rfl nodeTwo ⟨rfl, ?_⟩
  exact (B6.out.setCell (p := ⟨w.heap.size + 1 + 1, 0, none⟩) (by simp; omega) _).setCell (p := ⟨w.heap.size + 1 + 1, 1, none⟩) (by simp; omega) _
end Go.Proofs.YtnbaoihamjdjdaaGreatDoor.Sp

/- Package tree: the iterator over the nodes above a leaf. -/
namespace Go.Proofs.YtnbaoihamjdjdaaGreatDoor.Sp
open Go Go.RowKit Go.Shelf
attribute [local go_sem] Oper.semAt_some
set_option maxRecDepth 100000

theorem Strs.at_t {w wr : World} {a : Option Addr} {n k : Nat} {ss : List ByteArray} (h : Strs w a n ss) (hb : Below w.heap.size w wr) (hk : k < n) :
    ∃ b off, a = some ⟨b, off, none⟩ ∧ wr.cell? ⟨b, off + k, none⟩ = some (.string (ss.getD k ByteArray.empty)) := by
  obtain ⟨b, off, rfl, hc⟩ := (h.below hb).2 (by omega)
  exact ⟨b, off, rfl, hc k hk⟩
/-- A node above a leaf: its value, its text. -/
abbrev Nd := ByteArray × ByteArray
/-- The node so far up. -/
def ndAt (x : ByteArray) (I : Nat) (l : List ByteArray) (k : Nat) : Nd := (climbB x I (l.take (k + 1)), (climbedB x I l).getD k .empty)
theorem ranges_next {α : Type} (f : Nat → α) (k : Nat) : (List.range (k + 1)).map f = (List.range k).map f ++ [f k] := by simp [List.range_succ]
theorem climbed_getD (x : ByteArray) (I : Nat) (l : List ByteArray) (k : Nat) (hk : k < l.length) :
    (climbedB x I l).getD k .empty = if I / 2 ^ k % 2 = 0 then inpB (climbB x I (l.take k)) (l.getD k .empty) else inpB (l.getD k .empty) (climbB x I (l.take k)) := by
  have h1 : ∀ (a b : List ByteArray) (y : ByteArray), a.length = k → (a ++ y :: b).getD k .empty = y := fun a b y h => by
    subst h; simp
  have h2 : ∀ (p q : List ByteArray) (z : ByteArray) (j : Nat), climbedB z j (p ++ q) = climbedB z j p ++ climbedB (climbB z j p) (j / 2 ^ p.length) q := by
    intro p
    induction p with
    | nil => intro q z j; simp [climbedB, climbB]
    | cons y p ih => intro q z j; rw [List.cons_append, climbedB, ih, climbedB, climbB, List.length_cons, half_pow]; rfl
  have h3 : l = l.take k ++ l.getD k .empty :: l.drop (k + 1) := by
    rw [List.getD_eq_getElem?_getD, List.getElem?_eq_getElem hk]
    exact (List.take_append_drop k l).symm.trans (by rw [List.drop_eq_getElem_cons hk]; rfl)
  have h4 : (l.take k).length = k := by rw [List.length_take]; omega
  obtain ⟨y, hy⟩ : ∃ y, l.getD k ByteArray.empty = y := ⟨_, rfl⟩
  obtain ⟨p, hp⟩ : ∃ p, l.take k = p := ⟨_, rfl⟩
  rw [hy, hp] at h3 ⊢
  rw [hp] at h4
  rw [h3, h2, climbedB, h4]
  exact h1 _ _ _ (by rw [climbed_len, h4])

set_option maxHeartbeats 1000000 in
theorem ascent_any (x : ByteArray) (i : Int) (a : Option Addr) (n cap : Nat) (w : World) :
    Calls Tryz.prog 69 #[.string x, .int .i64 i, .slice a n cap] w fun e w' =>
      e = .returned (.func (.func 86) #[] #[.pointer (some ⟨w.heap.size + 1, 0, none⟩), .pointer (some ⟨w.heap.size, 0, none⟩), .pointer (some ⟨w.heap.size + 1 + 1, 0, none⟩)]) ∧
      w' = ((w.alloc (.cells #[.string x] 9)).alloc (.cells #[.int .i64 i] 3)).alloc (.cells #[.slice a n cap] 22) := by
  go_enter Tryz.func69, Tryz.ntmps69
  go_wp2_with fail
  go_ret
  exact ⟨rfl, rfl⟩

set_option maxHeartbeats 4000000 in
theorem ascent_stops (m : Nat) (hm : 1 ≤ m) (x : ByteArray) (i : Int) (hi : -9223372036854775808 ≤ i ∧ i ≤ 9223372036854775807) (I : Nat) (hI : i.toNat = I) (l : List ByteArray) (a : Option Addr) (n cap : Nat) (hn : n ≤ 9223372036854775807)
    (hM : ∀ y ∈ l, x.size + y.size ≤ 281474976710647 ∧ 32 + y.size ≤ 281474976710647) (w0 w : World) (hl : Strs w0 a n l) (hT : Tab w0) (hw : Below w0.heap.size w0 w)
    (Bi Bx Bp : Nat) (hBi : Blk w Bi 3 #[.int .i64 i]) (hBx : Blk w Bx 9 #[.string x]) (hBp : Blk w Bp 22 #[.slice a n cap]) :
    SeqCells Fence.wide m Tryz.prog 86 #[.pointer (some ⟨Bi, 0, none⟩), .pointer (some ⟨Bx, 0, none⟩), .pointer (some ⟨Bp, 0, none⟩)] (fun y : Nd => #[.agg #[.string y.1, .string y.2]]) w0.heap.size 90 (fun ys => ys = (List.range n).map (ndAt x I l)) n w := fun lb J W hW hJ hJc hY h0 => by
  have hlen := hl.1
  have c1 := (hBi.below hW hBi.lt).cell 0
  have c2 := (hBx.below hW hBx.lt).cell 0
  have c3 := (hBp.below hW hBp.lt).cell 0
  have d1 := fun o : Obj => ((hBi.below hW hBi.lt).alloc o).cell 0
  have d2 := fun o : Obj => ((hBx.below hW hBx.lt).alloc o).cell 0
  have d3 := fun o : Obj => ((hBp.below hW hBp.lt).alloc o).cell 0
  simp only [List.getElem?_toArray, List.getElem?_cons_zero] at c1 c2 c3 d1 d2 d3
  have hB0 : Below w0.heap.size w0 W := hw.trans (hW.mono hw.size)
  have HB0 := Lib.hid hB0
  have HL := Lib.hid hl
  have HT := Lib.hid hT
  have HM := Lib.hid hM
  have HJ := Lib.hid hJ
  have HJc := Lib.hid hJc
  have HY := Lib.hid hY
  have HJ0 := Lib.hid h0
  have hmax : (max i 0 : Int) = (I : Int) := by omega
  have hI9 : I ≤ 9223372036854775807 := by omega
  have hite : (if i < 0 then (0 : Int) else i) = (I : Int) := by split <;> omega
  have hite2 : (if 0 < i then i else (0 : Int)) = (I : Int) := by split <;> omega
  have hite3 : (if i ≤ 0 then (0 : Int) else i) = (I : Int) := by split <;> omega
  have hite4 : (if 0 ≤ i then i else (0 : Int)) = (I : Int) := by split <;> omega
  clear hBi hBx hBp hB0 hl hT hM hJ hJc hY h0 hw hW
  refine callsIn_of_wp Tryz.func86 rfl trivial ?_ rfl
  simp only [Tryz.ntmps86, List.size_toArray, List.length_cons, List.length_nil, Nat.reduceAdd, Nat.reduceSub, Array.replicate_succ, Array.replicate_zero, List.push_toArray, List.append_toArray, List.nil_append, List.cons_append]
  gi_wp2
  gi_region
  have e3 := d3 (.cells #[.string x, .string { data := #[] }] 90)
  obtain ⟨W1, hW1⟩ : ∃ W1, (W.alloc (.cells #[.string x, .string { data := #[] }] 90)).drew = W1 := ⟨_, rfl⟩
  have e3' : W1.cell? ⟨Bp, 0, none⟩ = some (.slice a n cap) := by rw [← hW1]; exact e3
  have HK1 := Lib.hid (show Blk W1 W.heap.size 90 #[.string x, .string { data := #[] }] from by rw [← hW1]; exact Blk.new _ _ _)
  have HB1 := Lib.hid (show Below w0.heap.size w0 W1 from by
    rw [← hW1]; exact HB0.out.trans ((((Below.refl W.heap.size W).alloc (Nat.le_refl _) _).drew).mono HB0.out.size))
  have HJ1 := Lib.hid (show J [] W1 from by
    rw [← hW1]; exact HJ.out _ _ _ none HJ0.out ⟨rfl, rfl, rfl, by simp [World.drew], fun k hk _ => Below.heap_alloc W _ k hk⟩ (fun r e => by cases e))
  rw [hW1]
  clear hW1 e3 d1 d2 d3 c1 c2 c3
  gi_wp2
  gi_loopw [5, 16] (fun tv kv wr => ∃ (k : Nat) (s : ByteArray), k ≤ n ∧ kv = .int .i64 (k : Int) ∧ tv = .int .i64 ((I / 2 ^ k : Nat) : Int) ∧ Blk wr W.heap.size 90 #[.string (climbB x I (l.take k)), .string s] ∧ J ((List.range k).map (ndAt x I l)) wr ∧ Below w0.heap.size w0 wr) (fun _ kv _ => n - (intOf kv).toNat)
  case atStart => exact ⟨0, _, by omega, rfl, by rw [Nat.pow_zero, Nat.div_one], HK1.out, HJ1.out, HB1.out⟩
  case round =>
    obtain ⟨k, s, hk, rfl, rfl, hblk, hJs, hbel⟩ := hrel
    have HK := Lib.hid hblk
    have HJr := Lib.hid hJs
    have HB := Lib.hid hbel
    clear hblk hJs hbel
    obtain ⟨C, hC⟩ : ∃ C, climbB x I (l.take k) = C := ⟨_, rfl⟩
    obtain ⟨E, hE⟩ : ∃ E, I / 2 ^ k = E := ⟨_, rfl⟩
    have hE9 : E ≤ 9223372036854775807 := by rw [← hE]; exact Nat.le_trans (Nat.div_le_self _ _) hI9
    rw [hC] at HK
    rw [hE]
    by_cases hlt : k < n
    · have hki : (k : Int) < (n : Int) := by omega
      have hk0 : (0 : Int) ≤ (k : Int) := by omega
      obtain ⟨b, off, rfl, c4⟩ := HL.out.at_t HB.out hlt
      obtain ⟨Y, hY⟩ : ∃ Y, l.getD k ByteArray.empty = Y := ⟨_, rfl⟩
      rw [hY] at c4
      have hCY : C.size + Y.size ≤ 281474976710647 := by
        have h1 := HM.out Y (by rw [← hY]; exact getD_mem_ l k (by omega))
        rcases climb_size (l.take k) x I with ⟨_, h2⟩ | h2
        · rw [← hC, h2]; exact h1.1
        · rw [← hC, h2]; exact h1.2
      have hstep := climb_take l k (by omega) x I
      rw [hC, hE, hY] at hstep
      have hstep2 := climbed_getD x I l k (by omega)
      rw [hC, hE, hY] at hstep2
      have hE2 : I / 2 ^ (k + 1) = E / 2 := by rw [← hE, Nat.pow_succ, Nat.div_div_eq_div_mul]
      obtain ⟨E', hE'⟩ : ∃ E', E / 2 = E' := ⟨_, rfl⟩
      rw [hE'] at hE2
      have HE2 := Lib.hid hE2
      have hq : (E : Int).tdiv 2 = (E' : Int) := by rw [Int.tdiv_eq_ediv_of_nonneg (by omega)]; omega
      have hq' : (E : Int) / 2 = (E' : Int) := by omega
      have hqw : IntKind.i64.wrap (E' : Int) = (E' : Int) := by rw [IntKind.wrap_i64]; omega
      have g1 := fun o : Obj => (HK.out.alloc o).cell 0
      have g2 := fun o : Obj => (HK.out.alloc o).cell 1
      simp only [List.getElem?_toArray, List.getElem?_cons_zero, List.getElem?_cons_succ] at g1 g2
      have HTr := Lib.hid (HT.out.below HB.out HT.out.lt)
      have Hlt := Lib.hid hlt
      clear hE2 hC hE hlt hY
      obtain ⟨V, hV⟩ : ∃ V, climbB x I (l.take (k + 1)) = V := ⟨_, rfl⟩
      obtain ⟨T, hTt⟩ : ∃ T, (climbedB x I l).getD k .empty = T := ⟨_, rfl⟩
      have HVT := Lib.hid (show ndAt x I l k = (V, T) from by unfold ndAt; rw [hV, hTt])
      have HV := Lib.hid hV
      rw [hV] at hstep
      rw [hTt] at hstep2
      clear hV hTt
      rcases Nat.mod_two_eq_zero_or_one E with hm2 | hm2
      · have hmi : (E : Int) % 2 = 0 := by omega
        have htm : (E : Int).tmod 2 = 0 := by rw [Int.tmod_eq_emod_of_nonneg (by omega)]; exact hmi
        rw [if_pos hm2] at hstep hstep2
        have HO := Lib.hid (fun w ht => over_any C s Y .empty w hCY ht)
        rw [← hstep, ← hstep2] at HO
        unfold ndV at HO
        clear hstep hstep2 hm2 hCY hE'
        gi_wp2_with fail
        refine ⟨trivial, (callsIn_wide.2 (HO.out _ (HTr.out.below ((Below.refl wr.heap.size wr).alloc (Nat.le_refl _) _) HTr.out.lt))).mono ?_⟩
        rintro e w5 ⟨rfl, h5⟩
        have b4 : Below wr.heap.size wr w5 := ((Below.refl wr.heap.size wr).alloc (Nat.le_refl _) _).trans (h5.mono (by simp))
        have hk5 : Blk w5 W.heap.size 90 #[.string C, .string s] := HK.out.below b4 HK.out.lt
        have g3 := hk5.cell 0
        have g4 := hk5.cell 1
        have f3 := hk5.frozen 0
        have f4 := hk5.frozen 1
        simp only [List.getElem?_toArray, List.getElem?_cons_zero, List.getElem?_cons_succ] at g3 g4
        have hK6 := Lib.hid ((hk5.set_ 0 (.string V)).set_ 1 (.string T))
        have hB6 := Lib.hid (((HB.out.trans (b4.mono HB.out.size)).setCell (p := ⟨W.heap.size, 0, none⟩) (by have := HB0.out.size; simpa using this) (.string V)).setCell (p := ⟨W.heap.size, 1, none⟩) (by have := HB0.out.size; simpa using this) (.string T))
        have hJ5 : J ((List.range k).map (ndAt x I l)) w5 := HJ.out _ wr w5 none HJr.out ⟨b4.os, b4.tape, b4.output, b4.size, fun k hk _ => b4.block k hk⟩ (fun r e => by cases e)
        have hJ6 : J ((List.range k).map (ndAt x I l)) ((w5.setCell ⟨W.heap.size, 0, none⟩ (.string V)).setCell ⟨W.heap.size, 1, none⟩ (.string T)) :=
          HJc.out _ w5 _ hJ5 (((Only.refl W.heap.size w5).set_ 0 (.string V)).set_ 1 (.string T)) hk5.lt
        obtain ⟨fn, tmps, assign, body, hy, hR⟩ := HY.out _ (V, T) _ hJ6 (by simpa using Hlt.out) ⟨_, hK6.out⟩
        dsimp only at hy
        have g5 := hK6.out.cell 0
        have g6 := hK6.out.cell 1
        simp only [List.setIfInBounds_toArray, List.set_cons_zero, List.set_cons_succ, List.getElem?_toArray, List.getElem?_cons_zero, List.getElem?_cons_succ] at g5 g6
        clear h5 b4 hk5 hJ5 hJ6 g1 g2
        gi_wp2_with fail
        refine hR.mono ?_
        rintro e W7 ⟨rfl, hJ7, hb7, hc7⟩
        have hK7 := Lib.hid (hc7 _ hK6.out)
        have hB7 := Lib.hid (hB6.out.trans hb7)
        have hJ7' := Lib.hid hJ7
        clear hJ7 hb7 hc7 hy hR g3 g4 f3 f4 g5 g6
        gi_wp2
        go_roundw
        case rel => exact ⟨k + 1, T, Hlt.out, by go_num, by rw [HE2.out], by rw [HV.out]; exact hK7.out, by rw [ranges_next, HVT.out]; exact hJ7'.out, hB7.out⟩
        case measure => simp [intOf]; omega
      · have hmi : (E : Int) % 2 = 1 := by omega
        have htm : (E : Int).tmod 2 = 1 := by rw [Int.tmod_eq_emod_of_nonneg (by omega)]; exact hmi
        rw [if_neg (by omega)] at hstep hstep2
        have HO := Lib.hid (fun w ht => over_any Y .empty C s w (by omega) ht)
        rw [← hstep, ← hstep2] at HO
        unfold ndV at HO
        clear hstep hstep2 hm2 hCY hE'
        gi_wp2_with fail
        refine ⟨trivial, (callsIn_wide.2 (HO.out _ (HTr.out.below ((Below.refl wr.heap.size wr).alloc (Nat.le_refl _) _) HTr.out.lt))).mono ?_⟩
        rintro e w5 ⟨rfl, h5⟩
        have b4 : Below wr.heap.size wr w5 := ((Below.refl wr.heap.size wr).alloc (Nat.le_refl _) _).trans (h5.mono (by simp))
        have hk5 : Blk w5 W.heap.size 90 #[.string C, .string s] := HK.out.below b4 HK.out.lt
        have g3 := hk5.cell 0
        have g4 := hk5.cell 1
        have f3 := hk5.frozen 0
        have f4 := hk5.frozen 1
        simp only [List.getElem?_toArray, List.getElem?_cons_zero, List.getElem?_cons_succ] at g3 g4
        have hK6 := Lib.hid ((hk5.set_ 0 (.string V)).set_ 1 (.string T))
        have hB6 := Lib.hid (((HB.out.trans (b4.mono HB.out.size)).setCell (p := ⟨W.heap.size, 0, none⟩) (by have := HB0.out.size; simpa using this) (.string V)).setCell (p := ⟨W.heap.size, 1, none⟩) (by have := HB0.out.size; simpa using this) (.string T))
        have hJ5 : J ((List.range k).map (ndAt x I l)) w5 := HJ.out _ wr w5 none HJr.out ⟨b4.os, b4.tape, b4.output, b4.size, fun k hk _ => b4.block k hk⟩ (fun r e => by cases e)
        have hJ6 : J ((List.range k).map (ndAt x I l)) ((w5.setCell ⟨W.heap.size, 0, none⟩ (.string V)).setCell ⟨W.heap.size, 1, none⟩ (.string T)) :=
          HJc.out _ w5 _ hJ5 (((Only.refl W.heap.size w5).set_ 0 (.string V)).set_ 1 (.string T)) hk5.lt
        obtain ⟨fn, tmps, assign, body, hy, hR⟩ := HY.out _ (V, T) _ hJ6 (by simpa using Hlt.out) ⟨_, hK6.out⟩
        dsimp only at hy
        have g5 := hK6.out.cell 0
        have g6 := hK6.out.cell 1
        simp only [List.setIfInBounds_toArray, List.set_cons_zero, List.set_cons_succ, List.getElem?_toArray, List.getElem?_cons_zero, List.getElem?_cons_succ] at g5 g6
        clear h5 b4 hk5 hJ5 hJ6 g1 g2
        gi_wp2_with fail
        refine hR.mono ?_
        rintro e W7 ⟨rfl, hJ7, hb7, hc7⟩
        have hK7 := Lib.hid (hc7 _ hK6.out)
        have hB7 := Lib.hid (hB6.out.trans hb7)
        have hJ7' := Lib.hid hJ7
        clear hJ7 hb7 hc7 hy hR g3 g4 f3 f4 g5 g6
        gi_wp2
        go_roundw
        case rel => exact ⟨k + 1, T, Hlt.out, by go_num, by rw [HE2.out], by rw [HV.out]; exact hK7.out, by rw [ranges_next, HVT.out]; exact hJ7'.out, hB7.out⟩
        case measure => simp [intOf]; omega
    · have hki : ¬ (k : Int) < (n : Int) := by omega
      obtain rfl : k = n := by omega
      gi_wp2
      go_end0
      first
        | exact ⟨⟨_, rfl⟩, _, rfl, HJr.out⟩
        | exact ⟨⟨_, rfl⟩, HJr.out⟩
end Go.Proofs.YtnbaoihamjdjdaaGreatDoor.Sp

/- Package tree: Climb. -/
namespace Go.Proofs.YtnbaoihamjdjdaaGreatDoor.Sp
open Go Go.RowKit Go.Shelf
attribute [local go_sem] Oper.semAt_some
set_option maxRecDepth 100000

theorem blk_own_t {β : Type} {g : Nat} {t : TypeId} (cs : β → Array Value) : Go.Own (fun (s : β) W => Blk W g t (cs s)) := fun s W W' row hs hg hr => hs.grown hg (by
  intro e
  obtain ⟨o, ho, hc⟩ := hr g e.symm
  rw [show W.heap[g]? = _ from hs] at ho
  cases ho
  cases hc)
/-- The value of the last node that came, or the leaf. -/
def lastV (x : ByteArray) (pre : List Nd) : ByteArray := pre.foldl (fun _ y => y.1) x
theorem lastV_snoc (x : ByteArray) (pre : List Nd) (y : Nd) : lastV x (pre ++ [y]) = y.1 := by simp [lastV]
theorem lastV_upto (x : ByteArray) (I : Nat) (l : List ByteArray) : ∀ k, lastV x ((List.range k).map (ndAt x I l)) = climbB x I (l.take k)
  | 0 => by simp [lastV, climbB]
  | k + 1 => by rw [ranges_next, lastV_snoc]; rfl

set_option maxHeartbeats 4000000 in
theorem tclimb_any (x : ByteArray) (i : Int) (l : List ByteArray) (a : Option Addr) (n cap : Nat) (w : World) (hn : n ≤ 4294967296) (hi : -9223372036854775808 ≤ i ∧ i ≤ 9223372036854775807) (hx : x.size ≤ 140737488355328)
    (hM : ∀ y ∈ l, x.size + y.size ≤ 281474976710647 ∧ 32 + y.size ≤ 281474976710647) (hl : Strs w a n l) (hT : Tab w) :
    Calls Tryz.prog 40 #[.string x, .int .i64 i, .slice a n cap] w fun e w' => e = .returned (.string (climbI x i l)) ∧ Below w.heap.size w w' := by
  have hlen := hl.1
  obtain ⟨I, hI⟩ : ∃ I : Nat, i.toNat = I := ⟨_, rfl⟩
  obtain ⟨Z, hZ⟩ : ∃ Z, climbI x i l = Z := ⟨_, rfl⟩
  have HZ := Lib.hid (show lastV x ((List.range n).map (ndAt x I l)) = Z from by
    rw [lastV_upto, List.take_of_length_le (by omega), ← hZ]; unfold climbI; rw [hI])
  have hZs : Z.size ≤ 140737488355328 := by
    rw [← hZ]; unfold climbI
    rcases climb_size l x i.toNat with ⟨_, h2⟩ | h2
    · rw [h2]; omega
    · rw [h2]; omega
  rw [hZ]
  clear hZ
  refine (callsIn_wide (n := 3)).1 ?_
  refine callsIn_of_wp_marks Tryz.func40 rfl trivial ?_ rfl
  simp only [Tryz.ntmps40, List.size_toArray, List.length_cons, List.length_nil, Nat.reduceAdd, Nat.reduceSub, Array.replicate_succ, Array.replicate_zero, List.push_toArray, List.append_toArray, List.nil_append, List.cons_append]
  gi_wp2_with (refine ⟨trivial, ?_⟩; gi_at_call 69; refine (callsIn_wide.2 (ascent_any x i a n cap _)).mono ?_; rintro e w' ⟨rfl, rfl⟩)
  obtain ⟨W0, hW0⟩ : ∃ W0, (((w.alloc (.cells #[.string x] 9)).alloc (.cells #[.string x] 9)).alloc (.cells #[.int .i64 i] 3)).alloc (.cells #[.slice a n cap] 22) = W0 := ⟨_, rfl⟩
  have bV : Blk W0 w.heap.size 9 #[.string x] := by rw [← hW0]; exact (((Blk.new w _ _).alloc _).alloc _).alloc _
  have bX : Blk W0 (w.heap.size + 1) 9 #[.string x] := by
    have h := ((Blk.new (w.alloc (.cells #[.string x] 9)) 9 #[.string x]).alloc (.cells #[.int .i64 i] 3)).alloc (.cells #[.slice a n cap] 22)
    rw [World.size_alloc] at h; rw [← hW0]; exact h
  have bI : Blk W0 (w.heap.size + 1 + 1) 3 #[.int .i64 i] := by
    have h := (Blk.new ((w.alloc (.cells #[.string x] 9)).alloc (.cells #[.string x] 9)) 3 #[.int .i64 i]).alloc (.cells #[.slice a n cap] 22)
    rw [World.size_alloc, World.size_alloc] at h; rw [← hW0]; exact h
  have bP : Blk W0 (w.heap.size + 1 + 1 + 1) 22 #[.slice a n cap] := by
    have h := Blk.new (((w.alloc (.cells #[.string x] 9)).alloc (.cells #[.string x] 9)).alloc (.cells #[.int .i64 i] 3)) 22 #[.slice a n cap]
    rw [World.size_alloc, World.size_alloc, World.size_alloc] at h; rw [← hW0]; exact h
  have hB0 : Below w.heap.size w W0 := by
    rw [← hW0]; exact ((((Below.refl _ _).alloc (Nat.le_refl _) _).alloc (by simp) _).alloc (by simp; omega) _).alloc (by simp; omega) _
  rw [hW0]
  have hPlt := bP.lt
  have hS0 : w.heap.size + 4 ≤ W0.heap.size := by omega
  refine range_cells rfl (by omega) (gf := 86) (lb := #[.pointer (some ⟨w.heap.size + 1 + 1, 0, none⟩), .pointer (some ⟨w.heap.size + 1, 0, none⟩), .pointer (some ⟨w.heap.size + 1 + 1 + 1, 0, none⟩)]) rfl trivial (enters_of Tryz.func86 (by kernel_rfl) rfl)
    (ascent_stops (3 - 1) (by omega) x i hi I hI l a n cap (by omega) hM w W0 hl hT hB0 (w.heap.size + 1 + 1) (w.heap.size + 1) (w.heap.size + 1 + 1 + 1) bI bX bP)
    hB0.size (Below.refl _ _) (fun _ => rfl)
    (fun pre W => Blk W w.heap.size 9 #[.string (lastV x pre)] ∧ Below w.heap.size w W)
    (OwnFrom.and (Own.from (blk_own_t (fun pre => #[.string (lastV x pre)])) _) (ownFrom_below (Nat.le_refl _) (by omega)))
    (fun s A B hs hg _ => ⟨hs.1.grown hg (by simp; omega), hs.2.grown hg hs.2.size (fun k e => by cases e; omega)⟩)
    ⟨bV, hB0⟩
    (fun y => .cells #[.string y.1, .string y.2] 90)
    (fun y B => { tmps := #[.string x, .int .i64 i, .slice a n cap, undef, undef, undef, .string { data := #[] }, .pointer (some ⟨w.heap.size, 0, none⟩), .pointer (some ⟨B, 0, none⟩), .string x, .string x, .int .i64 i, .slice a n cap,
      .func (.func 86) #[] #[.pointer (some ⟨w.heap.size + 1 + 1, 0, none⟩), .pointer (some ⟨w.heap.size + 1, 0, none⟩), .pointer (some ⟨w.heap.size + 1 + 1 + 1, 0, none⟩)], .agg #[.string y.1, .string y.2], undef, undef, undef, undef], defers := [] }) ?assign ?body ?done
  case assign =>
    intro lb y W K hK
    gi_wp2
    exact hK
  case body =>
    rintro lb pre y B W hBlt hBk _ ⟨hb1, hB⟩ _
    have hBk' : Blk W B 90 #[.string y.1, .string y.2] := hBk
    have c1 := hb1.cell 0
    have f1 := hb1.frozen 0
    have c2 := hBk'.cell 0
    simp only [List.getElem?_toArray, List.getElem?_cons_zero] at c1 c2
    have B1 := Lib.hid hb1
    have HB := Lib.hid hB
    have hbz := hB.size
    have HS0 := Lib.hid hS0
    clear hb1 hB hBk hBk' hW0 bV bX bI bP hB0 hS0
    gi_wp2
    refine ⟨KeepsOthers.setCell _ _ _, (Below.refl w.heap.size W).setCell (p := ⟨w.heap.size, 0, none⟩) (Nat.le_refl _) _, fun cs h => Blk.far h (p := ⟨w.heap.size, 0, none⟩) (by have := HS0.out; simp <;> omega) _, ?_, HB.out.setCell (p := ⟨w.heap.size, 0, none⟩) (Nat.le_refl _) _⟩
    rw [lastV_snoc]
    exact B1.out.set_ 0 _
  case done =>
    rintro D ys W hD rfl ⟨hb1, hB⟩ hK
    rw [HZ.out] at hb1
    have c1 := hb1.cell 0
    simp only [List.getElem?_toArray, List.getElem?_cons_zero] at c1
    have HK := Lib.hid hK
    have HB := Lib.hid hB
    clear hb1 hB hK
    gi_wp2_with (refine ⟨trivial, ?_⟩; gi_at_call 17; refine (callsIn_wide.2 (clone_any Z _ hZs)).mono ?_; rintro e w' ⟨rfl, h3⟩)
    have hK' : w'.heap[D]? = some (.deferred (some [])) := (h3.block D (Array.getElem?_eq_some_iff.1 HK.out).1).trans HK.out
    have hB' := HB.out.trans (h3.mono HB.out.size)
    refine ⟨by simp, .inl ⟨_, _, rfl, run_takeDeferred hK', ?_⟩⟩
    exact ⟨_, results_tmp rfl _ _ _, rfl, hB'.trans (belowK_b (w := w) (Nat.le_refl _) w' D _ _ (by omega) hK' rfl rfl)⟩
end Go.Proofs.YtnbaoihamjdjdaaGreatDoor.Sp

/- Package tree: the program's own Node, Root, Path, Climb, in the form in which the walks of the statements use them. -/
namespace Go.Proofs.YtnbaoihamjdjdaaGreatDoor.Sp
open Go Go.RowKit
set_option maxRecDepth 100000

theorem treeR : TreeR where
  node a b w h hT := tnode_any a b w h hT
  root l a n cap w hn hM hl hT := troot_any l a n cap w hn hM hl hT
  path l a n cap i w hn hi hM hl hT := tpath_any l a n cap i w hn hi hM hl hT
  climb x i l a n cap w hn hi hx hM hl hT := tclimb_any x i l a n cap w hn hi hx hM hl hT
end Go.Proofs.YtnbaoihamjdjdaaGreatDoor.Sp
