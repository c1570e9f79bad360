/- Package wots: the iterator over the positions at which a walk steps: whatever the loop's body is, it is handed each position from the first to the last, in order. -/
import Derived.RangeFuncNested
import Derived.RangeFuncBound
import Derived.RangeFuncCalls
import Derived.RangeFuncLeaves
import Derived.Shelf.Abstract
import Derived.Shelf.RegionOpen
import Derived.WalkKit
import Derived.OwnWalkIn
import Derived.TacticsInMore
import Derived.LoopNIn
import Derived.LoopIn
import Derived.Test.YtnbaoihamjdjdaaGreatDoorWotA
import Derived.Shelf.Strings.OnBuilder
import Derived.Test.YtnbaoihamjdjdaaGreatDoorMem
import Derived.Test.YtnbaoihamjdjdaaGreatDoorTreB
import Derived.Lib.SmallJoins
namespace Go.Proofs.YtnbaoihamjdjdaaGreatDoor.Sp
open Go Go.RowKit Go.Shelf
attribute [local go_sem] Oper.semAt_some
set_option maxRecDepth 100000

/-- A number that an int holds. -/
abbrev I64 := { x : Int // -9223372036854775808 ≤ x ∧ x ≤ 9223372036854775807 }
/-- What a round that goes on leaves as it was: the box of the last position. -/
def KeepsBox (B : Nat) (j : Int) (W W' : World) : Prop := Blk W B 3 #[.int .i64 j] → Blk W' B 3 #[.int .i64 j]
theorem Blk.own_ {β : Type} {g : Nat} {t : TypeId} (cs : β → Array Value) : Go.Own (fun (s : β) W => Blk W g t (cs s)) := fun s W W' row hs hg hr => hs.grown hg (by
  intro e
  obtain ⟨o, ho, hc⟩ := hr g e.symm
  rw [show W.heap[g]? = _ from hs] at ho
  cases ho
  cases hc)
theorem upto_next {α : Type} (f : Nat → α) (k : Nat) : (List.range (k + 1)).map f = (List.range k).map f ++ [f k] := by simp [List.range_succ]

set_option maxHeartbeats 2000000 in
/-- positions: both ends are boxed; the function captures the boxes. -/
theorem positions_any (i j : Int) (w : World) :
    Calls Tryz.prog 72 #[.int .i64 i, .int .i64 j] w fun e w' => e = .returned (.func (.func 88) #[] #[.pointer (some ⟨w.heap.size, 0, none⟩), .pointer (some ⟨w.heap.size + 1, 0, none⟩)]) ∧ w' = (w.alloc (.cells #[.int .i64 i] 3)).alloc (.cells #[.int .i64 j] 3) := by
  go_enter Tryz.func72, Tryz.ntmps72
  go_wp2_with fail
  go_ret
  exact ⟨rfl, rfl⟩

set_option maxHeartbeats 2000000 in
/-- Where a walk would go back before the first position or leave the chain: no round. -/
theorem positions_none (F : Fence) (n : Nat) (hF : F.fn 88) (hro : F.round = none) (l Bi Bj : Nat) (i j : Int) (hij : i < 0 ∨ 15 < j) (J : List I64 → World → Prop) (W : World) (hBi : Blk W Bi 3 #[.int .i64 i]) (hBj : Blk W Bj 3 #[.int .i64 j]) (h0 : J [] W) :
    CallsIn F n Tryz.prog 88 #[.func (.yield l) #[] #[], .pointer (some ⟨Bi, 0, none⟩), .pointer (some ⟨Bj, 0, none⟩)] W fun e W' => (∃ v, e = .returned v) ∧ J [] W' := by
  have c1 := hBi.cell 0
  have c2 := hBj.cell 0
  simp only [List.getElem?_toArray, List.getElem?_cons_zero] at c1 c2
  by_cases hi : i < 0
  · refine callsIn_of_wp Tryz.func88 rfl hF ?_ hro
    simp only [Tryz.ntmps88, List.size_toArray, List.length_cons, List.length_nil, Nat.reduceAdd, Nat.reduceSub, Array.replicate_succ, Array.replicate_zero, List.push_toArray, List.append_toArray, List.nil_append, List.cons_append]
    gi_wp2
    refine bodyPost_ret (results_none rfl _ _ _) rfl ?_
    exact ⟨⟨_, rfl⟩, h0⟩
  · have hj : 15 < j := by omega
    refine callsIn_of_wp Tryz.func88 rfl hF ?_ hro
    simp only [Tryz.ntmps88, List.size_toArray, List.length_cons, List.length_nil, Nat.reduceAdd, Nat.reduceSub, Array.replicate_succ, Array.replicate_zero, List.push_toArray, List.append_toArray, List.nil_append, List.cons_append]
    gi_wp2
    refine bodyPost_ret (results_none rfl _ _ _) rfl ?_
    exact ⟨⟨_, rfl⟩, h0⟩

set_option maxHeartbeats 4000000 in
/-- Else: each position from the first on, whatever the body does. -/
theorem positions_some (F : Fence) (n : Nat) (hF : F.fn 88) (hro : F.round = none) (hn : 1 ≤ n) (l Bi Bj : Nat) (i j : Int) (hi : ¬ i < 0) (hj : ¬ 15 < j) (K : Nat) (hK : (j - i).toNat = K) (f : Nat → I64) (hf : ∀ k, k < K → (f k).1 = i + k)
    (J Jx : List I64 → World → Prop)
    (hY : ∀ pre (x : I64) W, J pre W → pre.length < K → YieldAt F (n - 1) Tryz.prog l #[.int .i64 x.1] W fun e W' =>
      (e = .returned (.bool true) ∧ J (pre ++ [x]) W' ∧ KeepsBox Bj j W W') ∨ (e = .returned (.bool false) ∧ Jx (pre ++ [x]) W'))
    (W : World) (hBi : Blk W Bi 3 #[.int .i64 i]) (hBj : Blk W Bj 3 #[.int .i64 j]) (h0 : J [] W) :
    CallsIn F n Tryz.prog 88 #[.func (.yield l) #[] #[], .pointer (some ⟨Bi, 0, none⟩), .pointer (some ⟨Bj, 0, none⟩)] W fun e W' => (∃ v, e = .returned v) ∧
      ((∃ ys, ys = (List.range K).map f ∧ J ys W') ∨ (∃ pre, Jx pre W')) := by
  have HJ0 := Lib.hid h0
  have HB0 := Lib.hid hBj
  have c1 := hBi.cell 0
  have c2 := hBj.cell 0
  simp only [List.getElem?_toArray, List.getElem?_cons_zero] at c1 c2
  have HK := Lib.hid hK
  clear hBi hBj h0 hK
  refine callsIn_of_wp Tryz.func88 rfl hF ?_ hro
  simp only [Tryz.ntmps88, List.size_toArray, List.length_cons, List.length_nil, Nat.reduceAdd, Nat.reduceSub, Array.replicate_succ, Array.replicate_zero, List.push_toArray, List.append_toArray, List.nil_append, List.cons_append]
  gi_wp2
  gi_loopw [4] (fun x wr => ∃ k : Nat, k ≤ K ∧ x = .int .i64 (i + (k : Int)) ∧ J ((List.range k).map f) wr ∧ Blk wr Bj 3 #[.int .i64 j]) (fun x _ => (j - intOf x).toNat)
  case atStart => exact ⟨0, Nat.zero_le _, by simp, HJ0.out, HB0.out⟩
  case round =>
    obtain ⟨k, hk, rfl, hJs, hb⟩ := hrel
    have HB := Lib.hid hb
    have c3 := hb.cell 0
    simp only [List.getElem?_toArray, List.getElem?_cons_zero] at c3
    have hKo := HK.out
    clear hb c1 c2
    obtain ⟨p, hp⟩ : ∃ p : Int, i + (k : Int) = p := ⟨_, rfl⟩
    rw [hp]
    by_cases hlt : k < K
    · have hpj : p < j := by omega
      have hpw : IntKind.i64.wrap (p + 1) = p + 1 := by rw [IntKind.wrap_i64]; omega
      obtain ⟨x, hx⟩ : ∃ x : I64, f k = x := ⟨_, rfl⟩
      have hxp : x.1 = p := by rw [← hx, hf k hlt, hp]
      obtain ⟨fn, tmps, assign, body, hy, hR⟩ := hY _ x wr hJs (by simp; exact hlt)
      rw [hxp] at hy
      gi_wp2
      refine hR.mono ?_
      rintro e W3 (⟨rfl, hJ3, hk3⟩ | ⟨rfl, hJx3⟩)
      · have HB3 := Lib.hid (hk3 HB.out)
        gi_wp2
        go_roundw
        case rel => exact ⟨k + 1, hlt, by congr 1; omega, by rw [upto_next, hx]; exact hJ3, HB3.out⟩
        case measure => simp [intOf]; omega
      · gi_wp2
        refine bodyPost_ret (results_none rfl _ _ _) rfl ?_
        exact ⟨⟨_, rfl⟩, .inr ⟨_, hJx3⟩⟩
    · obtain rfl : k = K := by omega
      have hpj : ¬ p < j := by omega
      gi_wp2
      go_end0
      first
        | exact ⟨⟨_, rfl⟩, .inl ⟨_, rfl, hJs⟩⟩
        | exact ⟨⟨_, rfl⟩, .inl hJs⟩
end Go.Proofs.YtnbaoihamjdjdaaGreatDoor.Sp

/- Package wots: Walk. -/
namespace Go.Proofs.YtnbaoihamjdjdaaGreatDoor.Sp
open Go Go.RowKit Go.Shelf
attribute [local go_sem] Oper.semAt_some
set_option maxRecDepth 100000

/-- So many steps, each from the position that is handed over. -/
def foldB (c : Int) (v : ByteArray) (l : List I64) : ByteArray := l.foldl (fun v x => stepB c x.1 v) v
theorem foldB_snoc (c : Int) (v : ByteArray) (l : List I64) (x : I64) : foldB c v (l ++ [x]) = stepB c x.1 (foldB c v l) := by simp [foldB]
theorem foldB_le (c : Int) (m : Nat) (hm : 16 ≤ m) : ∀ (l : List I64) (v : ByteArray), v.size ≤ m → (foldB c v l).size ≤ m
  | [], v, h => h
  | x :: l, v, _ => foldB_le c m hm l (stepB c x.1 v) (by rw [stepB_size]; exact hm)
theorem foldB_upto (c i : Int) (v : ByteArray) (f : Nat → I64) : ∀ K, (∀ k, k < K → (f k).1 = i + k) → foldB c v ((List.range K).map f) = goB c i K v
  | 0, _ => rfl
  | K + 1, h => by
    rw [upto_next, foldB_snoc, foldB_upto c i v f K (fun k hk => h k (by omega)), h K (by omega)]
    rfl
/-- The positions from i on. -/
def place (i : Int) (k : Nat) : I64 := if h : -9223372036854775808 ≤ i + (k : Int) ∧ i + (k : Int) ≤ 9223372036854775807 then ⟨i + k, h⟩ else ⟨0, by omega⟩
theorem keeps_of_below {W W' : World} (h : Below W.heap.size W W') : KeepsOthers W W' :=
  KeepsOthers.of_grownBy (row := none) ⟨h.os, h.tape, h.output, h.size, fun k hk _ => h.block k hk⟩ (fun _ _ e => by cases e)

/-- What the iterator does, by the positions that it hands over. -/
theorem positions_stops (n : Nat) (hn : 1 ≤ n) (Bi Bj : Nat) (i j : Int) (hj : -9223372036854775808 ≤ j ∧ j ≤ 9223372036854775807) (K : Nat) (hK : K = if i < 0 ∨ 15 < j then 0 else (j - i).toNat) (w : World) (hBi : Blk w Bi 3 #[.int .i64 i]) (hBj : Blk w Bj 3 #[.int .i64 j]) :
    SeqStopsK Fence.wide n Tryz.prog 88 #[.pointer (some ⟨Bi, 0, none⟩), .pointer (some ⟨Bj, 0, none⟩)] (fun x : I64 => #[Value.int .i64 x.1]) (KeepsBox Bj j) (fun ys => ys = (List.range K).map (place i)) (fun _ => True) K w := fun l J Jx W hW _ _ hY h0 => by
  have bi := hBi.below hW hBi.lt
  have bj := hBj.below hW hBj.lt
  by_cases hij : i < 0 ∨ 15 < j
  · rw [if_pos hij] at hK
    subst hK
    exact (positions_none Fence.wide n trivial rfl l Bi Bj i j hij J W bi bj h0).mono fun e W' ⟨he, hJ⟩ => ⟨he, .inl ⟨_, rfl, hJ⟩⟩
  · rw [if_neg hij] at hK
    refine (positions_some Fence.wide n trivial rfl hn l Bi Bj i j (by omega) (by omega) K hK.symm (place i) ?_ J Jx hY W bi bj h0).mono ?_
    · intro k hk
      unfold place
      rw [dif_pos (by omega)]
    · rintro e W' ⟨he, ⟨ys, hys, hJ⟩ | ⟨pre, hJ⟩⟩
      · exact ⟨he, .inl ⟨ys, hys, hJ⟩⟩
      · exact ⟨he, .inr ⟨pre, trivial, hJ⟩⟩

theorem walkB_fold (c i j : Int) (v : ByteArray) (hj : -9223372036854775808 ≤ j ∧ j ≤ 9223372036854775807) (K : Nat) (hK : K = if i < 0 ∨ 15 < j then 0 else (j - i).toNat) : foldB c v ((List.range K).map (place i)) = walkB c i j v := by
  unfold walkB
  by_cases hij : i < 0 ∨ 15 < j
  · rw [if_pos hij] at hK ⊢
    subst hK
    rfl
  · rw [if_neg hij] at hK ⊢
    subst hK
    refine foldB_upto c i v (place i) _ ?_
    intro k hk
    unfold place
    rw [dif_pos (by omega)]

set_option maxHeartbeats 4000000 in
theorem wwalk_any (c i j : Int) (v : ByteArray) (hc : -9223372036854775808 ≤ c ∧ c ≤ 9223372036854775807) (_hi : -9223372036854775808 ≤ i ∧ i ≤ 9223372036854775807) (hj : -9223372036854775808 ≤ j ∧ j ≤ 9223372036854775807) (hv : v.size ≤ 140737488351232) (w : World) (hT : Tab w) :
    Calls Tryz.prog 49 #[.int .i64 c, .int .i64 i, .int .i64 j, .string v] w fun e w' => e = .returned (.string (walkB c i j v)) ∧ Below w.heap.size w w' := by
  obtain ⟨K, hK⟩ : ∃ K : Nat, K = if i < 0 ∨ 15 < j then 0 else (j - i).toNat := ⟨_, rfl⟩
  have HZ := Lib.hid (walkB_fold c i j v hj K hK)
  have HT := Lib.hid hT
  obtain ⟨Z, hZ⟩ : ∃ Z, walkB c i j v = Z := ⟨_, rfl⟩
  rw [hZ] at HZ
  rw [hZ]
  clear hZ hT
  refine (callsIn_wide (n := 3)).1 ?_
  refine callsIn_of_wp_marks Tryz.func49 rfl trivial ?_ rfl
  simp only [Tryz.ntmps49, List.size_toArray, List.length_cons, List.length_nil, Nat.reduceAdd, Nat.reduceSub, Array.replicate_succ, Array.replicate_zero, List.push_toArray, List.append_toArray, List.nil_append, List.cons_append]
  gi_wp2_with (refine ⟨trivial, ?_⟩; gi_at_call 72; refine (callsIn_wide.2 (positions_any i j _)).mono ?_; rintro e w' ⟨rfl, rfl⟩)
  have hW0 : ∃ W0, (((w.alloc (.cells #[.int .i64 c] 3)).alloc (.cells #[.string v] 9)).alloc (.cells #[.int .i64 i] 3)).alloc (.cells #[.int .i64 j] 3) = W0 := ⟨_, rfl⟩
  obtain ⟨W0, hW0⟩ := hW0
  have bC : Blk W0 w.heap.size 3 #[.int .i64 c] := by rw [← hW0]; exact (((Blk.new w _ _).alloc _).alloc _).alloc _
  have bV : Blk W0 (w.heap.size + 1) 9 #[.string v] := by
    have h := ((Blk.new (w.alloc (.cells #[.int .i64 c] 3)) 9 #[.string v]).alloc (.cells #[.int .i64 i] 3)).alloc (.cells #[.int .i64 j] 3)
    rw [World.size_alloc] at h; rw [← hW0]; exact h
  have bI : Blk W0 (w.heap.size + 1 + 1) 3 #[.int .i64 i] := by
    have h := (Blk.new ((w.alloc (.cells #[.int .i64 c] 3)).alloc (.cells #[.string v] 9)) 3 #[.int .i64 i]).alloc (.cells #[.int .i64 j] 3)
    rw [World.size_alloc, World.size_alloc] at h; rw [← hW0]; exact h
  have bJ : Blk W0 (w.heap.size + 1 + 1 + 1) 3 #[.int .i64 j] := by
    have h := Blk.new (((w.alloc (.cells #[.int .i64 c] 3)).alloc (.cells #[.string v] 9)).alloc (.cells #[.int .i64 i] 3)) 3 #[.int .i64 j]
    rw [World.size_alloc, World.size_alloc, World.size_alloc] at h; rw [← hW0]; exact h
  have hB0 : Below w.heap.size w W0 := by
    rw [← hW0]; exact ((((Below.refl _ _).alloc (Nat.le_refl _) _).alloc (by simp) _).alloc (by simp; omega) _).alloc (by simp; omega) _
  rw [hW0]
  have hJlt := bJ.lt
  refine wpIn_rangeFunc_ownF rfl (by omega) (gf := 88) (lb := #[.pointer (some ⟨w.heap.size + 1 + 1, 0, none⟩), .pointer (some ⟨w.heap.size + 1 + 1 + 1, 0, none⟩)]) rfl trivial (enters_of Tryz.func88 (by kernel_rfl) rfl)
    (positions_stops (3 - 1) (by omega) (w.heap.size + 1 + 1) (w.heap.size + 1 + 1 + 1) i j hj K hK W0 bI bJ)
    (fun h k b => k (h b))
    (fun W l o o' hl ho hc _ b => by
      refine (World.putObj_heap_other ?_).trans b
      omega)
    (Below.refl _ _) (fun _ => rfl)
    (fun pre W => (Blk W w.heap.size 3 #[.int .i64 c] ∧ Blk W (w.heap.size + 1) 9 #[.string (foldB c v pre)]) ∧ Below w.heap.size w W)
    (fun _ _ _ => False)
    (OwnFrom.and (Own.from (fun s A B row hs hg hr => ⟨Blk.own_ (fun _ => #[.int .i64 c]) s A B row hs.1 hg hr, Blk.own_ (fun pre => #[.string (foldB c v pre)]) s A B row hs.2 hg hr⟩) _) (ownFrom_below (Nat.le_refl _) (by omega)))
    (fun _ _ _ _ _ hs _ _ => hs.elim)
    ⟨⟨bC, bV⟩, hB0⟩
    (fun x => { tmps := #[.int .i64 c, .int .i64 i, .int .i64 j, .string v, .pointer (some ⟨w.heap.size, 0, none⟩), undef, undef, .pointer (some ⟨w.heap.size + 1, 0, none⟩), .string { data := #[] }, .int .i64 x.1, .int .i64 i, .int .i64 j,
      .func (.func 88) #[] #[.pointer (some ⟨w.heap.size + 1 + 1, 0, none⟩), .pointer (some ⟨w.heap.size + 1 + 1 + 1, 0, none⟩)], .int .i64 x.1, undef, undef, undef, undef, undef], defers := [] }) ?assign ?body ?done ?stop
  case assign =>
    intro l x W K hK
    gi_wp2
    exact hK
  case body =>
    rintro l pre x W ⟨⟨hb1, hb2⟩, hB⟩ _
    obtain ⟨V, hV⟩ : ∃ V, foldB c v pre = V := ⟨_, rfl⟩
    have hnext := Lib.hid (show foldB c v (pre ++ [x]) = stepB c x.1 V from by rw [foldB_snoc, hV])
    have hVs : V.size ≤ 140737488351232 := by rw [← hV]; exact foldB_le c _ (by omega) pre v hv
    rw [hV] at hb2
    have c1 := hb1.cell 0
    have c2 := hb2.cell 0
    simp only [List.getElem?_toArray, List.getElem?_cons_zero] at c1 c2
    have T := Lib.hid (tab_below HT.out hB)
    have B1 := Lib.hid hb1
    have B2 := Lib.hid hb2
    have HB := Lib.hid hB
    have hbz := hB.size
    have hlt := hb2.lt
    have HS := Lib.hid (fun (h : Tab W) => wstep_any c x.1 V hc x.2 hVs W h)
    clear hb1 hb2 hB hV hW0 bC bV bI bJ hB0
    gi_wp2_with (refine ⟨trivial, ?_⟩; gi_at_call 73; refine (CallsIn.inRound l (callsIn_wide.2 (HS.out T.out))).mono ?_; rintro e w2 ⟨rfl, h2⟩; have hc3 := (B2.out.below h2 hlt).cell 0; have hf3 := (B2.out.below h2 hlt).frozen 0; simp only [List.getElem?_toArray, List.getElem?_cons_zero] at hc3)
    refine ⟨(keeps_of_below h2).trans (KeepsOthers.setCell _ _ _), fun b => Blk.far (b.below h2 b.lt) (p := ⟨w.heap.size + 1, 0, none⟩) (by simp <;> omega) _, ⟨Blk.far (B1.out.below h2 B1.out.lt) (p := ⟨w.heap.size + 1, 0, none⟩) (by simp <;> omega) _, ?_⟩, (HB.out.trans (h2.mono hbz)).setCell (p := ⟨w.heap.size + 1, 0, none⟩) (by simp <;> omega) _⟩
    rw [hnext.out]
    exact (B2.out.below h2 hlt).set_ 0 _
  case done =>
    rintro D ys W hD rfl ⟨⟨hb1, hb2⟩, hB⟩ hK
    rw [HZ.out] at hb2
    have c2 := hb2.cell 0
    simp only [List.getElem?_toArray, List.getElem?_cons_zero] at c2
    gi_wp2
    refine ⟨by simp, .inl ⟨_, _, rfl, run_takeDeferred hK, ?_⟩⟩
    exact ⟨_, results_tmp rfl _ _ _, rfl, hB.trans (belowK_b (w := w) (Nat.le_refl _) W D _ _ (by omega) hK rfl rfl)⟩
  case stop =>
    rintro D c pre W _ _ h _
    exact h.elim
end Go.Proofs.YtnbaoihamjdjdaaGreatDoor.Sp

/- Package wots: split, Digits. -/
namespace Go.Proofs.YtnbaoihamjdjdaaGreatDoor.Sp
open Go Go.RowKit
set_option maxRecDepth 100000

theorem and15 (n : Nat) (h : n < 256) : bits .and .i64 (n : Int) 15 = ((n % 16 : Nat) : Int) := by
  have key : ∀ m : Fin 256, bits .and .i64 (m.val : Int) 15 = ((m.val % 16 : Nat) : Int) := by decide +kernel
  exact key ⟨n, h⟩
theorem split_any (n p q : Nat) (h : n < 256) (hp : n / 16 = p) (hq : n % 16 = q) (w : World) :
    Calls Tryz.prog 82 #[.int .i64 (n : Int)] w fun e w' => e = .returned (.tuple #[.int .i64 (p : Int), .int .i64 (q : Int)]) ∧ w' = w := by
  have hd : (n : Int) / 16 = (p : Int) := by omega
  have hb : bits .and .i64 (n : Int) 15 = (q : Int) := by rw [and15 n h, hq]
  clear hp hq
  go_enter Tryz.func82, Tryz.ntmps82
  go_wp2_with fail
  go_ret2
  exact ⟨rfl, rfl⟩
theorem run_make_ints (u : World) : (Instr.makeSlice 72 (.int .i64 0) (.int .i64 10)).run Tryz.prog u =
    .ok (.slice (some ⟨u.heap.size, 0, none⟩) 0 10) (u.alloc (.cells (madeCells #[.int .i64 0] 10) 3)) := by
  obtain ⟨i0, hi, hz0, hz1, hz2⟩ := info_parts infoInt
  have h := run_make (P := Tryz.prog) u 72 3 i0 (.int .i64 0) Tryz.underlying72 hi hz0 .i64 .i64 0 10 (by omega) (by omega) (by rw [hz2]; omega) (by omega)
  simpa [hz1, Value.cells] using h
theorem ownN_made (w : World) (base c g : Nat) (hg : w.heap.size = g) (hb : base ≤ g) (hc : c ≤ maxLen) : OwnN (w.alloc (.cells (madeCells #[.int .i64 0] c) 3)) base (.slice (some ⟨g, 0, none⟩) 0 c) [] := by
  subst hg
  exact World.ownsRow_made w _ c hb hc (by rw [size_madeCells]; omega)

set_option maxHeartbeats 4000000 in
theorem wdigits_any (msg : ByteArray) (hm : msg.size ≤ 140737488351232) (w : World) (hT : Tab w) :
    Calls Tryz.prog 56 #[.string msg] w (DigTo msg w) := by
  obtain ⟨R, hR⟩ : ∃ R : ByteArray, R = ⟨(sum (inB 1 [msg])).toArray⟩ := ⟨_, rfl⟩
  have hRs : R.size = 32 := by rw [← size_list, hR]; exact sum_length _
  have HRl := Lib.hid (show R.data.toList = sum (inB 1 [msg]) from by rw [hR])
  have HL := Lib.hid (show len2 [msg] 1 ≤ 281474976710656 by simp [len2]; omega)
  have HR := Lib.hid hR
  have HT := Lib.hid hT
  clear hR hT hm
  go_enter Tryz.func56, Tryz.ntmps56
  go_wp2_with fail
  refine (wtag_of 1 (by omega) (some ⟨w.heap.size, 0, none⟩) 1 1 [msg] _ (strs_of_blk (Blk.new w 9 _) rfl) (by omega) HL.out (tab_alloc HT.out _) R HR.out).mono ?_
  rintro e w1 ⟨rfl, h1⟩
  have B1 := Lib.hid (((Below.refl _ w).alloc (Nat.le_refl _) (.cells #[.string msg] 9)).trans (h1.mono (by simp)))
  clear h1
  have b1 := B1.out.size
  have hmk := run_make_ints w1
  clear HT HL HR
  go_wp2_with fail
  go_loopw [4, 5, 15] (fun x y z wr => ∃ k : Nat, k ≤ 4 ∧ z = .int .i64 (k : Int) ∧ y = .int .i64 ((lacks (hexOf (R.data.toList.take k)) : Nat) : Int) ∧ OwnN wr w.heap.size x (hexOf (R.data.toList.take k)) ∧ Below w.heap.size w wr) (fun _ _ z _ => 4 - (intOf z).toNat)
  case atStart => exact ⟨0, by omega, rfl, rfl, ownN_made w1 w.heap.size 10 w1.heap.size rfl b1 (by decide), B1.out.alloc b1 _⟩
  case round =>
    obtain ⟨k, hk, rfl, rfl, hown, hbel⟩ := hrel
    have HO := Lib.hid hown
    have HB := Lib.hid hbel
    have hbz := hbel.size
    clear hown hbel hmk
    obtain ⟨L, hL⟩ : ∃ L, lacks (hexOf (R.data.toList.take k)) = L := ⟨_, rfl⟩
    rw [hL]
    have hLm : L ≤ 120 := by
      have h1 := lacks_le (hexOf (R.data.toList.take k))
      rw [hexOf_length, List.length_take, hL] at h1
      omega
    by_cases hlt : k < 4
    · have hki : (k : Int) < 4 := by omega
      have hk0 : (0 : Int) ≤ (k : Int) := by omega
      have hkR : (k : Int) < (R.size : Int) := by omega
      have hkn : k < R.size := by omega
      obtain ⟨b, hb⟩ : ∃ b, R[k].toNat = b := ⟨_, rfl⟩
      have hb256 : b < 256 := by rw [← hb]; exact R[k].toNat_lt
      obtain ⟨p, hp⟩ : ∃ p, b / 16 = p := ⟨_, rfl⟩
      obtain ⟨q, hq⟩ : ∃ q, b % 16 = q := ⟨_, rfl⟩
      have hp15 : p ≤ 15 := by omega
      have hq15 : q ≤ 15 := by omega
      have hnext := Lib.hid (show hexOf (R.data.toList.take (k + 1)) = hexOf (R.data.toList.take k) ++ [p, q] from by
        rw [show R.data.toList.take (k + 1) = R.data.toList.take k ++ [R[k]] from by rw [List.take_succ_eq_append_getElem (by rw [size_list]; omega)]; rfl, hexOf_snoc, hb, hp, hq])
      have HSp := Lib.hid (split_any b p q hb256 hp hq wr)
      have hL2 := Lib.hid (show lacks (hexOf (R.data.toList.take (k + 1))) = L + (15 - p) + (15 - q) from by rw [hnext.out, lacks_app, hL]; simp [lacks]; omega)
      have hln := Lib.hid (show (hexOf (R.data.toList.take k)).length = 2 * k from by rw [hexOf_length, List.length_take, size_list]; omega)
      obtain ⟨Xs, eXs⟩ : ∃ Xs : List Value, (hexOf (R.data.toList.take k)).map intV = Xs := ⟨_, rfl⟩
      have HOk := Lib.hid (show wr.ownsRow w.heap.size 3 1 u4 (2 * k) Xs from by have := HO.out; unfold OwnN at this; rw [hln.out, eXs] at this; exact this)
      have EXs := Lib.hid eXs
      clear hL hlt hp hq eXs
      obtain ⟨i0, hi0, hz0, hz1, hz2⟩ := info_parts infoInt
      have hk8 : 2 * k + 2 ≤ maxLen := by unfold maxLen; omega
      have hkb : (2 * k + 2) * 8 ≤ 140737488355328 := by omega
      go_wp2_with fail
      refine HSp.out.mono ?_
      rintro e w5 ⟨rfl, rfl⟩
      go_wp2_with (at_builtin; refine wpList_append_own _ rfl (.tmp 33) (.tmp 36) 72 rfl w.heap.size 3 i0 (.int .i64 0) 1 8 Tryz.underlying72 hi0 hz0 hz1 hz2 rfl (by decide) u4 (2 * k) Xs rfl (HOk.out.alloc _) ⟨w5.heap.size, 0, none⟩ 2 2 [.int .i64 (p : Int), .int .i64 (q : Int)] rfl rfl ?c1 ?c2 ?c3 ?c4 ?c5 ?_)
      case c1 => intro j u hj; exact new_cell _ _ _ hj
      case c2 => intro u hu; simp at hu; rcases hu with rfl | rfl <;> rfl
      case c3 => exact hk8
      case c4 => exact hkb
      case c5 => simp; omega
      intro v' w2 hown2 hgrow _
      have HO2 := Lib.hid (show OwnN w2 w.heap.size v' (hexOf (R.data.toList.take (k + 1))) from by
        unfold OwnN
        rw [hnext.out, List.map_append, List.length_append, hln.out, EXs.out]
        exact hown2)
      have HB2 := Lib.hid (show Below w.heap.size w w2 from by
        refine (HB.out.alloc hbz _).grown hgrow (by simp; omega) ?_
        intro k' hk'
        exact (HOk.out.lt k' hk').1)
      clear hown2 hgrow hk8 hkb
      go_wp2_with fail
      go_roundw
      case rel => exact ⟨k + 1, by omega, by go_num, by rw [hL2.out]; congr 1; omega, HO2.out, HB2.out⟩
      case measure => simp [intOf]; omega
    · have hki : ¬ (k : Int) < 4 := by omega
      obtain rfl : k = 4 := by omega
      obtain ⟨p, hp⟩ : ∃ p, L / 16 = p := ⟨_, rfl⟩
      obtain ⟨q, hq⟩ : ∃ q, L % 16 = q := ⟨_, rfl⟩
      have HSp := Lib.hid (split_any L p q (by omega) hp hq wr)
      have hp15 : p ≤ 15 := by omega
      have hq15 : q ≤ 15 := by omega
      have hdig := Lib.hid (show digitsN msg = hexOf (R.data.toList.take 4) ++ [p, q] from by
        rw [← hp, ← hq, ← hL, HRl.out]; rfl)
      have hln := Lib.hid (show (hexOf (R.data.toList.take 4)).length = 8 from by rw [hexOf_length, List.length_take, size_list]; omega)
      obtain ⟨Xs, eXs⟩ : ∃ Xs : List Value, (hexOf (R.data.toList.take 4)).map intV = Xs := ⟨_, rfl⟩
      have HOk := Lib.hid (show wr.ownsRow w.heap.size 3 1 u4 8 Xs from by have := HO.out; unfold OwnN at this; rw [hln.out, eXs] at this; exact this)
      have EXs := Lib.hid eXs
      obtain ⟨i0, hi0, hz0, hz1, hz2⟩ := info_parts infoInt
      clear hL hp hq eXs
      go_wp2_with fail
      refine HSp.out.mono ?_
      rintro e w5 ⟨rfl, rfl⟩
      go_wp2_with (at_builtin; refine wpList_append_own _ rfl (.tmp 44) (.tmp 47) 72 rfl w.heap.size 3 i0 (.int .i64 0) 1 8 Tryz.underlying72 hi0 hz0 hz1 hz2 rfl (by decide) u4 8 Xs rfl (HOk.out.alloc _) ⟨w5.heap.size, 0, none⟩ 2 2 [.int .i64 (p : Int), .int .i64 (q : Int)] rfl rfl ?c1 ?c2 ?c3 ?c4 ?c5 ?_)
      all_goals first
        | (intro j u hj; exact new_cell _ _ _ hj; done)
        | (intro u hu; simp at hu; rcases hu with rfl | rfl <;> rfl; done)
        | exact ⟨rfl, rfl⟩
        | (unfold maxLen; omega)
        | omega
        | (simp; omega; done)
        | skip
      intro v' w2 hown2 hgrow _
      have HO2 := Lib.hid (show OwnN w2 w.heap.size v' (digitsN msg) from by
        unfold OwnN
        rw [hdig.out, List.map_append, List.length_append, hln.out, EXs.out]
        exact hown2)
      have HB2 := Lib.hid (show Below w.heap.size w w2 from by
        refine (HB.out.alloc hbz _).grown hgrow (by simp; omega) ?_
        intro k' hk'
        exact (HOk.out.lt k' hk').1)
      have hten := Lib.hid (show (digitsN msg).length = 10 from by rw [hdig.out, List.length_append, hln.out]; rfl)
      clear hown2 hgrow
      obtain ⟨a, c, hv, hc⟩ := HO2.out.cells_
      rw [hten.out] at hv hc
      subst hv
      have HC := Lib.hid hc
      clear hc HO2
      go_wp2_with fail
      go_ret
      exact ⟨a, c, rfl, HC.out, HB2.out⟩
end Go.Proofs.YtnbaoihamjdjdaaGreatDoor.Sp

/- The library's strings.Join, at this program: the numbers under which its functions, types and variables stand, so that the shelf's contract speaks of them. -/
namespace Go.Proofs.YtnbaoihamjdjdaaGreatDoor.Sp
open Go Go.Shelf Go.RowKit
set_option maxRecDepth 100000
def lays156_ren : Go.Shelf.Ren := ⟨fun | 156 => 57 | 165 => 83 | 166 => 84 | 169 => 85 | 240 => 97 | 241 => 98 | 276 => 103 | 277 => 104 | n => n, fun | 31 => 22 | 9 => 9 | 3 => 3 | 4 => 4 | 0 => 0 | 20 => 20 | 72 => 104 | 76 => 108 | 70 => 102 | 37 => 68 | 75 => 107 | 127 => 94 | 164 => 124 | 5 => 5 | 80 => 34 | n => n, fun | n => n⟩
theorem lays156 : Go.Proofs.Lays.n156 Tryz.prog lays156_ren := {
  mixed := by kernel_rfl
  f156 := Tryz.func57.trans (congrArg some (by kernel_rfl))
  f165 := Tryz.func83.trans (congrArg some (by kernel_rfl))
  f166 := Tryz.func84.trans (congrArg some (by kernel_rfl))
  f169 := Tryz.func85.trans (congrArg some (by kernel_rfl))
  f240 := Tryz.func97.trans (congrArg some (by kernel_rfl))
  f241 := Tryz.func98.trans (congrArg some (by kernel_rfl))
  f276 := Tryz.func103.trans (congrArg some (by kernel_rfl))
  f277 := Tryz.func104.trans (congrArg some (by kernel_rfl))
  t0 := Tryz.underlying0
  a0 := Tryz.isAgg0
  z0 := Tryz.sizeOf0
  v0 := Tryz.zeroValue0
  t3 := Tryz.underlying3
  a3 := Tryz.isAgg3
  z3 := Tryz.sizeOf3
  v3 := Tryz.zeroValue3
  t4 := Tryz.underlying4
  a4 := Tryz.isAgg4
  z4 := Tryz.sizeOf4
  v4 := Tryz.zeroValue4
  t9 := Tryz.underlying9
  a9 := Tryz.isAgg9
  z9 := Tryz.sizeOf9
  v9 := Tryz.zeroValue9
  t20 := Tryz.underlying20
  a20 := Tryz.isAgg20
  z20 := Tryz.sizeOf20
  v20 := Tryz.zeroValue20
  t31 := Tryz.underlying22
  a31 := Tryz.isAgg22
  z31 := Tryz.sizeOf22
  v31 := Tryz.zeroValue22
  t37 := Tryz.underlying68
  a37 := Tryz.isAgg68
  z37 := Tryz.sizeOf68
  v37 := Tryz.zeroValue68
  t70 := Tryz.underlying102
  a70 := Tryz.isAgg102
  z70 := Tryz.sizeOf102
  v70 := Tryz.zeroValue102
  t72 := Tryz.underlying104
  a72 := Tryz.isAgg104
  z72 := Tryz.sizeOf104
  v72 := Tryz.zeroValue104
  t75 := Tryz.underlying107
  a75 := Tryz.isAgg107
  z75 := Tryz.sizeOf107
  v75 := Tryz.zeroValue107
  t76 := Tryz.underlying108
  a76 := Tryz.isAgg108
  z76 := Tryz.sizeOf108
  v76 := Tryz.zeroValue108
  t127 := Tryz.underlying94
  a127 := Tryz.isAgg94
  z127 := Tryz.sizeOf94
  v127 := Tryz.zeroValue94
  t164 := Tryz.underlying124
  a164 := Tryz.isAgg124
  z164 := Tryz.sizeOf124
  v164 := Tryz.zeroValue124 }
theorem builderX : Builder.Extra Tryz.prog lays156_ren where
  sizeBuilder := by kernel_rfl
  liesBuilder := by kernel_rfl
  t5 := Tryz.underlying5
  a5 := Tryz.isAgg5
  z5 := Tryz.sizeOf5
  v5 := Tryz.zeroValue5
  infoByte := by kernel_rfl
  cellsByte := by kernel_rfl
  sizeByte := by kernel_rfl
  neB5 := by decide
theorem join_any (bk c n : Nat) (xs : List ByteArray) (sep : ByteArray) (w : World) (hn : xs.length = n) (hcells : ∀ (j : Nat) x, xs[j]? = some x → w.cell? ⟨bk, j, none⟩ = some (.string x)) (hbk : bk < w.heap.size) (hN : n ≤ 140737488355328) (hcap : n ≤ c) (hlen : (Lib.join (xs.map (·.data.toList)) sep.data.toList).length ≤ 140737488355328) :
    Calls Tryz.prog 57 #[.slice (some ⟨bk, 0, none⟩) n c, .string sep] w fun e w' => e = .returned (.string ⟨(Lib.join (xs.map (·.data.toList)) sep.data.toList).toArray⟩) ∧ Below w.heap.size w w' := by
  subst hn
  exact Any.strings_Join lays156 builderX bk 0 c xs sep w (fun j x h => by rw [Nat.zero_add]; exact hcells j x h) hbk hN hcap hlen
end Go.Proofs.YtnbaoihamjdjdaaGreatDoor.Sp

/- Package wots: Public, Sign, From. -/
namespace Go.Proofs.YtnbaoihamjdjdaaGreatDoor.Sp
open Go Go.RowKit
set_option maxRecDepth 100000

/-- Ten texts, of which the first k are there. -/
def rowT (f : Nat → ByteArray) (k : Nat) : List ByteArray := (List.range 10).map fun c => if c < k then f c else .empty
def rowV (f : Nat → ByteArray) (k : Nat) : Array Value := ((rowT f k).map Value.string).toArray
theorem rowV_made (f : Nat → ByteArray) : madeCells #[Value.string .empty] 10 = rowV f 0 := by kernel_rfl
theorem rowV_get (f : Nat → ByteArray) (k : Nat) (hk : k < 10) : (rowV f k)[k]? = some (.string .empty) := by
  simp [rowV, rowT, hk]
theorem rowV_set (f : Nat → ByteArray) (k : Nat) (_hk : k < 10) : (rowV f k).setIfInBounds k (.string (f k)) = rowV f (k + 1) := by
  apply Array.toList_inj.1
  rw [Array.toList_setIfInBounds]
  apply List.ext_getElem
  · simp [rowV, rowT]
  · intro j h1 h2
    simp only [rowV, rowT, List.getElem_set, List.getElem_map, List.getElem_range]
    by_cases hjk : k = j
    · subst hjk
      simp
    · rw [if_neg hjk]
      rcases Nat.lt_or_ge j k with h | h
      · rw [if_pos h, if_pos (by omega)]
      · rw [if_neg (by omega), if_neg (by omega)]
theorem rowT_all (f : Nat → ByteArray) : rowT f 10 = endsTo f 10 := by
  unfold rowT endsTo
  apply List.map_congr_left
  intro c hc
  rw [List.mem_range] at hc
  rw [if_pos hc]
theorem rowV_strs {f : Nat → ByteArray} {w : World} {g : Nat} (h : Blk w g 9 (rowV f 10)) : Strs w (some ⟨g, 0, none⟩) 10 (endsTo f 10) := by
  rw [← rowT_all]
  exact strs_of_blk h (by simp [rowT])
/-- Ten digits lie apart from a block of texts. -/
theorem Cells.past {w : World} {a : Option Addr} {d : Nat → Nat} {f : Nat → ByteArray} {g k : Nat} (h : Cells w a 10 (fun j => intV (d j))) (hb : Blk w g 9 (rowV f k)) (i : Nat) (u : Value) : Cells (w.setCell ⟨g, i, none⟩ u) a 10 (fun j => intV (d j)) := by
  intro hn
  obtain ⟨b, off, e, hc⟩ := h hn
  refine ⟨b, off, e, fun j hj => ?_⟩
  have hne : b ≠ g := by
    rintro rfl
    have h0 := hc 0 (by omega)
    rw [hb.cell] at h0
    simp only [rowV, List.getElem?_toArray, List.getElem?_map, Option.map_eq_some_iff] at h0
    obtain ⟨x, _, hx⟩ := h0
    cases hx
  exact ((Only.refl g w).set_ i u).cell (hc j hj) hne
theorem run_make_texts (u : World) : (Instr.makeSlice 22 (.int .i64 10) (.int .i64 10)).run Tryz.prog u =
    .ok (.slice (some ⟨u.heap.size, 0, none⟩) 10 10) (u.alloc (.cells (madeCells #[.string .empty] 10) 9)) := by
  obtain ⟨i0, hi, hz0, hz1, hz2⟩ := info_parts infoText
  have h := run_make (P := Tryz.prog) u 22 9 i0 (.string .empty) Tryz.underlying22 hi hz0 .i64 .i64 10 10 (by omega) (by omega) (by rw [hz2]; omega) (by omega)
  simpa [hz1, Value.cells] using h
theorem join_flat (xs : List (List UInt8)) : Lib.join xs [] = xs.flatten := by
  cases xs with
  | nil => rfl
  | cons x r => rw [Lib.join_cons]; simp [Lib.joinTail]
theorem ends_len2 (f : Nat → ByteArray) (hf : ∀ c, c < 10 → (f c).size = 16) : len2 (endsTo f 10) 10 ≤ 281474976710656 := by
  have h := len2_16 (endsTo f 10) (by
    intro x hx
    simp only [endsTo, List.mem_map, List.mem_range] at hx
    obtain ⟨c, hc10, rfl⟩ := hx
    exact hf c hc10)
  rw [endsTo_length] at h
  omega

set_option maxHeartbeats 4000000 in
theorem wpublic_any (seed : ByteArray) (l : Int) (hl : -9223372036854775808 ≤ l ∧ l ≤ 9223372036854775807) (hs : seed.size ≤ 140737488351232) (w : World) (hT : Tab w) :
    Calls Tryz.prog 18 #[.string seed, .int .i64 l] w fun e w' => e = .returned (.string (publicB seed l)) ∧ Below w.heap.size w w' := by
  obtain ⟨f, hf⟩ : ∃ f : Nat → ByteArray, f = fun (c : Nat) => walkB (c : Int) 0 15 (secretB seed l (c : Int)) := ⟨_, rfl⟩
  have hfs : ∀ c, c < 10 → (f c).size = 16 := fun c _ => by rw [hf]; exact walkB_size _ _ _ _ (secretB_size _ _ _)
  obtain ⟨R, hR⟩ : ∃ R : ByteArray, publicB seed l = R := ⟨_, rfl⟩
  have HR := Lib.hid (show R = ⟨(sum (inB 4 (endsTo f 10))).toArray⟩ from by rw [← hR, hf]; rfl)
  rw [hR]
  have Hfs := Lib.hid hfs
  have HT := Lib.hid hT
  have Hf := Lib.hid hf
  have hmk := run_make_texts w
  rw [rowV_made f] at hmk
  clear hR hfs hT hf
  go_enter Tryz.func18, Tryz.ntmps18
  go_wp2_with fail
  go_loopw [10] (fun y wr => ∃ k : Nat, k ≤ 10 ∧ y = .int .i64 (k : Int) ∧ Blk wr w.heap.size 9 (rowV f k) ∧ Below w.heap.size w wr) (fun y _ => 10 - (intOf y).toNat)
  case atStart => exact ⟨0, by omega, rfl, Blk.new _ _ _, (Below.refl _ _).alloc (Nat.le_refl _) _⟩
  case round =>
    obtain ⟨k, hk, rfl, hblk, hbel⟩ := hrel
    have HK := Lib.hid hblk
    have HB := Lib.hid hbel
    have HTr := Lib.hid (tab_below HT.out hbel)
    have hbz := hbel.size
    clear hblk hbel hmk
    by_cases hlt : k < 10
    · have hki : (k : Int) < 10 := by omega
      have hk0 : (0 : Int) ≤ (k : Int) := by omega
      obtain ⟨Sx, hSx⟩ : ∃ Sx, secretB seed l (k : Int) = Sx := ⟨_, rfl⟩
      have HS := Lib.hid (secret_any seed l (k : Int) hl (by omega) hs)
      rw [hSx] at HS
      obtain ⟨W, hW⟩ : ∃ W, f k = W := ⟨_, rfl⟩
      have hWw : walkB (k : Int) 0 15 Sx = W := by rw [← hW, Hf.out, ← hSx]
      have HW := Lib.hid (wwalk_any (k : Int) 0 15 Sx (by omega) (by omega) (by omega) (by rw [← hSx, secretB_size]; omega))
      rw [hWw] at HW
      have hset := Lib.hid (show (rowV f k).setIfInBounds k (.string W) = rowV f (k + 1) from by rw [← hW]; exact rowV_set f k hlt)
      clear hSx hW hWw
      go_wp2_with fail
      refine (HS.out wr HTr.out).mono ?_
      rintro e w1 ⟨rfl, h1⟩
      have T1 := Lib.hid (tab_below HTr.out h1)
      have B1 := Lib.hid (HB.out.trans (h1.mono HB.out.size))
      have K1 := Lib.hid (HK.out.below h1 HK.out.lt)
      clear h1
      go_wp2_with fail
      refine (HW.out w1 T1.out).mono ?_
      rintro e w2 ⟨rfl, h2⟩
      have B2 := Lib.hid (B1.out.trans (h2.mono B1.out.size))
      have K2 := Lib.hid (K1.out.below h2 K1.out.lt)
      have hc2 := K2.out.cell k
      rw [rowV_get f k hlt] at hc2
      have hf2 := K2.out.frozen k
      clear h2 hlt
      go_wp2_with fail
      go_roundw
      case rel => exact ⟨k + 1, by omega, by go_num, by rw [← hset.out]; exact K2.out.set_ k _, B2.out.setCell (p := ⟨w.heap.size, k, none⟩) (Nat.le_refl _) _⟩
      case measure => simp [intOf]; omega
    · have hki : ¬ (k : Int) < 10 := by omega
      obtain rfl : k = 10 := by omega
      go_wp2_with fail
      refine (wtag_of 4 (by omega) (some ⟨w.heap.size, 0, none⟩) 10 10 (endsTo f 10) wr (rowV_strs HK.out) (by omega) (ends_len2 f Hfs.out) HTr.out R HR.out).mono ?_
      rintro e w3 ⟨rfl, h3⟩
      have B3 := Lib.hid (HB.out.trans (h3.mono HB.out.size))
      clear h3
      go_wp2_with fail
      go_ret
      exact ⟨rfl, B3.out⟩

theorem sign_flat (seed : ByteArray) (l : Int) (msg : ByteArray) (f : Nat → ByteArray) (hf : f = fun (c : Nat) => walkB (c : Int) 0 ((digitsN msg).getD c 0 : Nat) (secretB seed l (c : Int))) : ∀ k, (signUpto seed l msg k).data.toList = ((endsTo f k).map (·.data.toList)).flatten
  | 0 => rfl
  | k + 1 => by
    rw [endsTo_succ, List.map_append, List.flatten_append, ← sign_flat seed l msg f hf k, signUpto, Go.Joins.data_append, hf]
    simp
theorem ends_cells {f : Nat → ByteArray} {w : World} {g : Nat} (h : Blk w g 9 (rowV f 10)) : ∀ (j : Nat) x, (endsTo f 10)[j]? = some x → w.cell? ⟨g, j, none⟩ = some (.string x) := by
  intro j x hj
  rw [h.cell, rowV, rowT_all]
  simp [hj]

set_option maxHeartbeats 4000000 in
theorem wsign_any (seed : ByteArray) (l : Int) (msg : ByteArray) (hl : -9223372036854775808 ≤ l ∧ l ≤ 9223372036854775807) (hs : seed.size ≤ 140737488351232) (hm : msg.size ≤ 140737488351232) (w : World) (hT : Tab w) :
    Calls Tryz.prog 23 #[.string seed, .int .i64 l, .string msg] w fun e w' => e = .returned (.string (signB seed l msg)) ∧ Below w.heap.size w w' := by
  obtain ⟨f, hf⟩ : ∃ f : Nat → ByteArray, f = fun (c : Nat) => walkB (c : Int) 0 ((digitsN msg).getD c 0 : Nat) (secretB seed l (c : Int)) := ⟨_, rfl⟩
  obtain ⟨Z, hZ⟩ : ∃ Z, signB seed l msg = Z := ⟨_, rfl⟩
  have hJl : Lib.join ((endsTo f 10).map (·.data.toList)) ByteArray.empty.data.toList = Z.data.toList := by
    rw [← hZ]
    show Lib.join _ [] = _
    rw [join_flat, ← sign_flat seed l msg f hf 10]
    rfl
  have hZs : Z.size = 160 := by rw [← hZ]; exact sign_size _ _ _
  have HJ := Lib.hid hJl
  have HZs := Lib.hid hZs
  rw [hZ]
  have HT := Lib.hid hT
  have Hf := Lib.hid hf
  have hmk := run_make_texts w
  rw [rowV_made f] at hmk
  clear hT hZ hf hJl hZs
  go_enter Tryz.func23, Tryz.ntmps23
  go_wp2_with fail
  have T1 := Lib.hid (tab_alloc HT.out (.cells (rowV f 0) 9))
  have K1 := Lib.hid (Blk.new w 9 (rowV f 0))
  have B1 := Lib.hid ((Below.refl _ w).alloc (Nat.le_refl _) (.cells (rowV f 0) 9))
  clear hmk
  refine (wdigits_any msg hm _ T1.out).mono ?_
  rintro e w0 ⟨a, cap, rfl, hcells, h0⟩
  have HC0 := Lib.hid hcells
  have B0 := Lib.hid (B1.out.trans (h0.mono B1.out.size))
  have K0 := Lib.hid (K1.out.below h0 K1.out.lt)
  clear hcells h0
  go_wp2_with fail
  go_loopw [14] (fun y wr => ∃ k : Nat, k ≤ 10 ∧ y = .int .i64 (k : Int) ∧ Blk wr w.heap.size 9 (rowV f k) ∧ Cells wr a 10 (fun j => intV ((digitsN msg).getD j 0)) ∧ Below w.heap.size w wr) (fun y _ => 10 - (intOf y).toNat)
  case atStart => exact ⟨0, by omega, rfl, K0.out, HC0.out, B0.out⟩
  case round =>
    obtain ⟨k, hk, rfl, hblk, hc, hbel⟩ := hrel
    have HK := Lib.hid hblk
    have HB := Lib.hid hbel
    have HC := Lib.hid hc
    have HTr := Lib.hid (tab_below HT.out hbel)
    have hbz := hbel.size
    clear hblk hbel
    by_cases hlt : k < 10
    · have hki : (k : Int) < 10 := by omega
      have hk0 : (0 : Int) ≤ (k : Int) := by omega
      obtain ⟨b, off, rfl, hcell⟩ := hc (by omega)
      obtain ⟨d, hd⟩ : ∃ d, (digitsN msg).getD k 0 = d := ⟨_, rfl⟩
      have hd15 : d ≤ 15 := by rw [← hd]; exact digits_le msg k
      have ck := hcell k hlt
      simp only [hd, intV] at ck
      obtain ⟨Sx, hSx⟩ : ∃ Sx, secretB seed l (k : Int) = Sx := ⟨_, rfl⟩
      have HS := Lib.hid (secret_any seed l (k : Int) hl (by omega) hs)
      rw [hSx] at HS
      obtain ⟨W, hW⟩ : ∃ W, f k = W := ⟨_, rfl⟩
      have hWw : walkB (k : Int) 0 (d : Int) Sx = W := by rw [← hW, Hf.out, ← hSx, ← hd]
      have HW := Lib.hid (wwalk_any (k : Int) 0 (d : Int) Sx (by omega) (by omega) (by omega) (by rw [← hSx, secretB_size]; omega))
      rw [hWw] at HW
      have hset := Lib.hid (show (rowV f k).setIfInBounds k (.string W) = rowV f (k + 1) from by rw [← hW]; exact rowV_set f k hlt)
      clear hSx hW hWw hd hcell
      go_wp2_with fail
      refine (HS.out wr HTr.out).mono ?_
      rintro e w1 ⟨rfl, h1⟩
      have T1 := Lib.hid (tab_below HTr.out h1)
      have B1 := Lib.hid (HB.out.trans (h1.mono HB.out.size))
      have K1 := Lib.hid (HK.out.below h1 HK.out.lt)
      have C1 := Lib.hid (HC.out.below_ h1)
      clear h1
      go_wp2_with fail
      refine (HW.out w1 T1.out).mono ?_
      rintro e w2 ⟨rfl, h2⟩
      have B2 := Lib.hid (B1.out.trans (h2.mono B1.out.size))
      have K2 := Lib.hid (K1.out.below h2 K1.out.lt)
      have C2 := Lib.hid (C1.out.below_ h2)
      have hc2 := K2.out.cell k
      rw [rowV_get f k hlt] at hc2
      have hf2 := K2.out.frozen k
      clear h2 hlt ck
      go_wp2_with fail
      go_roundw
      case rel => exact ⟨k + 1, by omega, by go_num, by rw [← hset.out]; exact K2.out.set_ k _, C2.out.past K2.out k _, B2.out.setCell (p := ⟨w.heap.size, k, none⟩) (Nat.le_refl _) _⟩
      case measure => simp [intOf]; omega
    · have hki : ¬ (k : Int) < 10 := by omega
      obtain rfl : k = 10 := by omega
      clear hc
      go_wp2_with fail
      refine (join_any w.heap.size 10 10 (endsTo f 10) .empty wr (endsTo_length f 10) (ends_cells HK.out) HK.out.lt (by omega) (Nat.le_refl _) (by rw [HJ.out, size_list, HZs.out]; omega)).mono ?_
      rw [HJ.out]
      rintro e w3 ⟨rfl, h3⟩
      have B3 := Lib.hid (HB.out.trans (h3.mono HB.out.size))
      clear h3
      go_wp2_with fail
      go_ret
      exact ⟨rfl, B3.out⟩

theorem piece_eq (s : ByteArray) (p q : Nat) (hq : p + 16 = q) (_hs : q ≤ s.size) : (s.extract p s.size).extract 0 16 = s.extract p q := by
  apply list_inj
  rw [extract_list, extract_list, extract_list, List.drop_zero, List.take_of_length_le (l := s.data.toList) (by rw [size_list]; omega), List.drop_take]
  congr 1
  omega

set_option maxHeartbeats 4000000 in
theorem wfrom_any (sig msg : ByteArray) (_hs : sig.size ≤ 9223372036854775807) (hm : msg.size ≤ 140737488351232) (w : World) (hT : Tab w) :
    Calls Tryz.prog 41 #[.string sig, .string msg] w fun e w' => e = .returned (.string (fromB sig msg)) ∧ Below w.heap.size w w' := by
  have HT := Lib.hid hT
  clear hT
  by_cases hsz : sig.size = 160
  · obtain ⟨f, hf⟩ : ∃ f : Nat → ByteArray, f = fun (c : Nat) => walkB (c : Int) ((digitsN msg).getD c 0 : Nat) 15 (sig.extract (16 * c) (16 * c + 16)) := ⟨_, rfl⟩
    obtain ⟨R, hR⟩ : ∃ R : ByteArray, fromB sig msg = R := ⟨_, rfl⟩
    have HR := Lib.hid (show R = ⟨(sum (inB 4 (endsTo f 10))).toArray⟩ from by rw [← hR, fromB, if_pos hsz, hf]; rfl)
    have hfs : ∀ c, c < 10 → (f c).size = 16 := fun c hc => by
      rw [hf]
      refine walkB_size _ _ _ _ ?_
      rw [ByteArray.size_extract]; omega
    rw [hR]
    have Hfs := Lib.hid hfs
    have Hf := Lib.hid hf
    have hszi : (sig.size : Int) = 160 := by omega
    have hmk := run_make_texts w
    rw [rowV_made f] at hmk
    clear hR hfs hf _hs
    go_enter Tryz.func41, Tryz.ntmps41
    go_wp2_with fail
    have T1 := Lib.hid (tab_alloc HT.out (.cells (rowV f 0) 9))
    have K1 := Lib.hid (Blk.new w 9 (rowV f 0))
    have B1 := Lib.hid ((Below.refl _ w).alloc (Nat.le_refl _) (.cells (rowV f 0) 9))
    clear hmk
    refine (wdigits_any msg hm _ T1.out).mono ?_
    rintro e w0 ⟨a, cap, rfl, hcells, h0⟩
    have HC0 := Lib.hid hcells
    have B0 := Lib.hid (B1.out.trans (h0.mono B1.out.size))
    have K0 := Lib.hid (K1.out.below h0 K1.out.lt)
    clear hcells h0
    go_wp2_with fail
    go_loopw [16] (fun y wr => ∃ k : Nat, k ≤ 10 ∧ y = .int .i64 (k : Int) ∧ Blk wr w.heap.size 9 (rowV f k) ∧ Cells wr a 10 (fun j => intV ((digitsN msg).getD j 0)) ∧ Below w.heap.size w wr) (fun y _ => 10 - (intOf y).toNat)
    case atStart => exact ⟨0, by omega, rfl, K0.out, HC0.out, B0.out⟩
    case round =>
      obtain ⟨k, hk, rfl, hblk, hc, hbel⟩ := hrel
      have HK := Lib.hid hblk
      have HB := Lib.hid hbel
      have HC := Lib.hid hc
      have HTr := Lib.hid (tab_below HT.out hbel)
      have hbz := hbel.size
      clear hblk hbel
      by_cases hlt : k < 10
      · have hki : (k : Int) < 10 := by omega
        have hk0 : (0 : Int) ≤ (k : Int) := by omega
        obtain ⟨b, off, rfl, hcell⟩ := hc (by omega)
        obtain ⟨d, hd⟩ : ∃ d, (digitsN msg).getD k 0 = d := ⟨_, rfl⟩
        have hd15 : d ≤ 15 := by rw [← hd]; exact digits_le msg k
        have ck := hcell k hlt
        simp only [hd, intV] at ck
        obtain ⟨p, hp⟩ : ∃ p : Nat, 16 * k = p := ⟨_, rfl⟩
        have hpi : (k : Int) * 16 = (p : Int) := by omega
        have hpw : IntKind.i64.wrap (p : Int) = (p : Int) := by rw [IntKind.wrap_i64]; omega
        have hps : (p : Int) ≤ (sig.size : Int) := by omega
        have hp160 : (p : Int) ≤ 160 := by omega
        have hp0 : (0 : Int) ≤ (p : Int) := by omega
        obtain ⟨V1, hV1⟩ : ∃ V1, sig.extract p sig.size = V1 := ⟨_, rfl⟩
        have hV1b : sig.extract p 160 = V1 := by rw [← hV1, hsz]
        have hV1s : V1.size = 160 - p := by rw [← hV1, ByteArray.size_extract]; omega
        have hV1i : (16 : Int) ≤ (V1.size : Int) := by omega
        obtain ⟨V, hV⟩ : ∃ V, sig.extract p (p + 16) = V := ⟨_, rfl⟩
        have hV2 : V1.extract 0 16 = V := by rw [← hV1, ← hV]; exact piece_eq sig p _ rfl (by omega)
        have hVs : V.size = 16 := by rw [← hV, ByteArray.size_extract]; omega
        obtain ⟨W, hW⟩ : ∃ W, f k = W := ⟨_, rfl⟩
        have hWw : walkB (k : Int) (d : Int) 15 V = W := by rw [← hW, Hf.out, ← hV, ← hp, ← hd]
        have HW := Lib.hid (wwalk_any (k : Int) (d : Int) 15 V (by omega) (by omega) (by omega) (by omega))
        rw [hWw] at HW
        have hset := Lib.hid (show (rowV f k).setIfInBounds k (.string W) = rowV f (k + 1) from by rw [← hW]; exact rowV_set f k hlt)
        clear hW hWw hd hcell hp hV hV1s
        go_wp2_with fail
        refine (HW.out wr HTr.out).mono ?_
        rintro e w2 ⟨rfl, h2⟩
        have B2 := Lib.hid (HB.out.trans (h2.mono HB.out.size))
        have K2 := Lib.hid (HK.out.below h2 HK.out.lt)
        have C2 := Lib.hid (HC.out.below_ h2)
        have hc2 := K2.out.cell k
        rw [rowV_get f k hlt] at hc2
        have hf2 := K2.out.frozen k
        clear h2 hlt ck
        go_wp2_with fail
        go_roundw
        case rel => exact ⟨k + 1, by omega, by go_num, by rw [← hset.out]; exact K2.out.set_ k _, C2.out.past K2.out k _, B2.out.setCell (p := ⟨w.heap.size, k, none⟩) (Nat.le_refl _) _⟩
        case measure => simp [intOf]; omega
      · have hki : ¬ (k : Int) < 10 := by omega
        obtain rfl : k = 10 := by omega
        clear hc
        go_wp2_with fail
        refine (wtag_of 4 (by omega) (some ⟨w.heap.size, 0, none⟩) 10 10 (endsTo f 10) wr (rowV_strs HK.out) (by omega) (ends_len2 f Hfs.out) HTr.out R HR.out).mono ?_
        rintro e w3 ⟨rfl, h3⟩
        have B3 := Lib.hid (HB.out.trans (h3.mono HB.out.size))
        clear h3
        go_wp2_with fail
        go_ret
        exact ⟨rfl, B3.out⟩
  · have hR : fromB sig msg = .empty := by rw [fromB, if_neg hsz]
    rw [hR]
    have hszb : ¬ (sig.size : Int) = 160 := by omega
    clear hR hsz
    go_enter Tryz.func41, Tryz.ntmps41
    go_wp2_with fail
    go_ret
    exact ⟨rfl, Below.refl _ _⟩
end Go.Proofs.YtnbaoihamjdjdaaGreatDoor.Sp
