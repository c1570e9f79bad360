/- Package wots: Walk. -/
import Derived.Test.YtncimfiiknbcfaaDoorWotItr
namespace Go.Proofs.YtncimfiiknbcfaaDoor.Sp
open Go Go.RowKit Go.Shelf
attribute [local go_sem] Oper.semAt_some
set_option maxRecDepth 100000

/-- So many steps, each from the position that is handed over. -/
def foldB (c : Int) (v : ByteArray) (l : List I64) : ByteArray := l.foldl (fun v x => stepB c x.1 v) v
theorem foldB_snoc (c : Int) (v : ByteArray) (l : List I64) (x : I64) : foldB c v (l ++ [x]) = stepB c x.1 (foldB c v l) := by simp [foldB]
theorem foldB_le (c : Int) (m : Nat) (hm : 16 ≤ m) : ∀ (l : List I64) (v : ByteArray), v.size ≤ m → (foldB c v l).size ≤ m
  | [], v, h => h
  | x :: l, v, _ => foldB_le c m hm l (stepB c x.1 v) (by rw [stepB_size]; exact hm)
theorem foldB_upto (c i : Int) (v : ByteArray) (f : Nat → I64) : ∀ K, (∀ k, k < K → (f k).1 = i + k) → foldB c v ((List.range K).map f) = goB c i K v
  | 0, _ => rfl
  | K + 1, h => by
    rw [upto_next, foldB_snoc, foldB_upto c i v f K (fun k hk => h k (by omega)), h K (by omega)]
    rfl
/-- The positions from i on. -/
def place (i : Int) (k : Nat) : I64 := if h : -9223372036854775808 ≤ i + (k : Int) ∧ i + (k : Int) ≤ 9223372036854775807 then ⟨i + k, h⟩ else ⟨0, by omega⟩
theorem keeps_of_below {W W' : World} (h : Below W.heap.size W W') : KeepsOthers W W' :=
  KeepsOthers.of_grownBy (row := none) ⟨h.os, h.tape, h.output, h.size, fun k hk _ => h.block k hk⟩ (fun _ _ e => by cases e)

/-- What the iterator does, by the positions that it hands over. -/
theorem positions_stops (n : Nat) (hn : 1 ≤ n) (Bi Bj : Nat) (i j : Int) (hj : -9223372036854775808 ≤ j ∧ j ≤ 9223372036854775807) (K : Nat) (hK : K = if i < 0 ∨ 15 < j then 0 else (j - i).toNat) (w : World) (hBi : Blk w Bi 3 #[.int .i64 i]) (hBj : Blk w Bj 3 #[.int .i64 j]) :
    SeqStopsK Fence.wide n Tryd.prog 48 #[.pointer (some ⟨Bi, 0, none⟩), .pointer (some ⟨Bj, 0, none⟩)] (fun x : I64 => #[Value.int .i64 x.1]) (KeepsBox Bj j) (fun ys => ys = (List.range K).map (place i)) (fun _ => True) K w := fun l J Jx W hW _ _ hY h0 => by
  have bi := hBi.below hW hBi.lt
  have bj := hBj.below hW hBj.lt
  by_cases hij : i < 0 ∨ 15 < j
  · rw [if_pos hij] at hK
    subst hK
    exact (positions_none Fence.wide n trivial rfl l Bi Bj i j hij J W bi bj h0).mono fun e W' ⟨he, hJ⟩ => ⟨he, .inl ⟨_, rfl, hJ⟩⟩
  · rw [if_neg hij] at hK
    refine (positions_some Fence.wide n trivial rfl hn l Bi Bj i j (by omega) (by omega) K hK.symm (place i) ?_ J Jx hY W bi bj h0).mono ?_
    · intro k hk
      unfold place
      rw [dif_pos (by omega)]
    · rintro e W' ⟨he, ⟨ys, hys, hJ⟩ | ⟨pre, hJ⟩⟩
      · exact ⟨he, .inl ⟨ys, hys, hJ⟩⟩
      · exact ⟨he, .inr ⟨pre, trivial, hJ⟩⟩

theorem walkB_fold (c i j : Int) (v : ByteArray) (hj : -9223372036854775808 ≤ j ∧ j ≤ 9223372036854775807) (K : Nat) (hK : K = if i < 0 ∨ 15 < j then 0 else (j - i).toNat) : foldB c v ((List.range K).map (place i)) = walkB c i j v := by
  unfold walkB
  by_cases hij : i < 0 ∨ 15 < j
  · rw [if_pos hij] at hK ⊢
    subst hK
    rfl
  · rw [if_neg hij] at hK ⊢
    subst hK
    refine foldB_upto c i v (place i) _ ?_
    intro k hk
    unfold place
    rw [dif_pos (by omega)]

set_option maxHeartbeats 4000000 in
theorem wwalk_any (c i j : Int) (v : ByteArray) (hc : -9223372036854775808 ≤ c ∧ c ≤ 9223372036854775807) (hi : -9223372036854775808 ≤ i ∧ i ≤ 9223372036854775807) (hj : -9223372036854775808 ≤ j ∧ j ≤ 9223372036854775807) (hv : v.size ≤ 140737488351232) (w : World) (hT : Tab w) :
    Calls Tryd.prog 22 #[.int .i64 c, .int .i64 i, .int .i64 j, .string v] w fun e w' => e = .returned (.string (walkB c i j v)) ∧ Below w.heap.size w w' := by
  obtain ⟨K, hK⟩ : ∃ K : Nat, K = if i < 0 ∨ 15 < j then 0 else (j - i).toNat := ⟨_, rfl⟩
  have HZ := Lib.hid (walkB_fold c i j v hj K hK)
  have HT := Lib.hid hT
  obtain ⟨Z, hZ⟩ : ∃ Z, walkB c i j v = Z := ⟨_, rfl⟩
  rw [hZ] at HZ
  rw [hZ]
  clear hZ hT
  refine (callsIn_wide (n := 3)).1 ?_
  refine callsIn_of_wp_marks Tryd.func22 rfl trivial ?_ rfl
  simp only [Tryd.ntmps22, List.size_toArray, List.length_cons, List.length_nil, Nat.reduceAdd, Nat.reduceSub, Array.replicate_succ, Array.replicate_zero, List.push_toArray, List.append_toArray, List.nil_append, List.cons_append]
  gi_wp2_with (refine ⟨trivial, ?_⟩; gi_at_call 34; refine (callsIn_wide.2 (positions_any i j _)).mono ?_; rintro e w' ⟨rfl, rfl⟩)
  have hW0 : ∃ W0, (((w.alloc (.cells #[.int .i64 c] 3)).alloc (.cells #[.string v] 9)).alloc (.cells #[.int .i64 i] 3)).alloc (.cells #[.int .i64 j] 3) = W0 := ⟨_, rfl⟩
  obtain ⟨W0, hW0⟩ := hW0
  have bC : Blk W0 w.heap.size 3 #[.int .i64 c] := by rw [← hW0]; exact (((Blk.new w _ _).alloc _).alloc _).alloc _
  have bV : Blk W0 (w.heap.size + 1) 9 #[.string v] := by
    have h := ((Blk.new (w.alloc (.cells #[.int .i64 c] 3)) 9 #[.string v]).alloc (.cells #[.int .i64 i] 3)).alloc (.cells #[.int .i64 j] 3)
    rw [World.size_alloc] at h; rw [← hW0]; exact h
  have bI : Blk W0 (w.heap.size + 1 + 1) 3 #[.int .i64 i] := by
    have h := (Blk.new ((w.alloc (.cells #[.int .i64 c] 3)).alloc (.cells #[.string v] 9)) 3 #[.int .i64 i]).alloc (.cells #[.int .i64 j] 3)
    rw [World.size_alloc, World.size_alloc] at h; rw [← hW0]; exact h
  have bJ : Blk W0 (w.heap.size + 1 + 1 + 1) 3 #[.int .i64 j] := by
    have h := Blk.new (((w.alloc (.cells #[.int .i64 c] 3)).alloc (.cells #[.string v] 9)).alloc (.cells #[.int .i64 i] 3)) 3 #[.int .i64 j]
    rw [World.size_alloc, World.size_alloc, World.size_alloc] at h; rw [← hW0]; exact h
  have hB0 : Below w.heap.size w W0 := by
    rw [← hW0]; exact ((((Below.refl _ _).alloc (Nat.le_refl _) _).alloc (by simp) _).alloc (by simp; omega) _).alloc (by simp; omega) _
  rw [hW0]
  have hJlt := bJ.lt
  refine wpIn_rangeFunc_ownF rfl (by omega) (gf := 48) (lb := #[.pointer (some ⟨w.heap.size + 1 + 1, 0, none⟩), .pointer (some ⟨w.heap.size + 1 + 1 + 1, 0, none⟩)]) rfl trivial (enters_of Tryd.func48 (by kernel_rfl) rfl)
    (positions_stops (3 - 1) (by omega) (w.heap.size + 1 + 1) (w.heap.size + 1 + 1 + 1) i j hj K hK W0 bI bJ)
    (fun h k b => k (h b))
    (fun W l o o' hl ho hc _ b => by
      refine (World.putObj_heap_other ?_).trans b
      omega)
    (Below.refl _ _) (fun _ => rfl)
    (fun pre W => (Blk W w.heap.size 3 #[.int .i64 c] ∧ Blk W (w.heap.size + 1) 9 #[.string (foldB c v pre)]) ∧ Below w.heap.size w W)
    (fun _ _ _ => False)
    (OwnFrom.and (Own.from (fun s A B row hs hg hr => ⟨Blk.own_ (fun _ => #[.int .i64 c]) s A B row hs.1 hg hr, Blk.own_ (fun pre => #[.string (foldB c v pre)]) s A B row hs.2 hg hr⟩) _) (ownFrom_below (Nat.le_refl _) (by omega)))
    (fun _ _ _ _ _ hs _ _ => hs.elim)
    ⟨⟨bC, bV⟩, hB0⟩
    (fun x => { tmps := #[.int .i64 c, .int .i64 i, .int .i64 j, .string v, .pointer (some ⟨w.heap.size, 0, none⟩), undef, undef, .pointer (some ⟨w.heap.size + 1, 0, none⟩), .string { data := #[] }, .int .i64 x.1, .int .i64 i, .int .i64 j,
      .func (.func 48) #[] #[.pointer (some ⟨w.heap.size + 1 + 1, 0, none⟩), .pointer (some ⟨w.heap.size + 1 + 1 + 1, 0, none⟩)], .int .i64 x.1, undef, undef, undef, undef, undef], defers := [] }) ?assign ?body ?done ?stop
  case assign =>
    intro l x W K hK
    gi_wp2
    exact hK
  case body =>
    rintro l pre x W ⟨⟨hb1, hb2⟩, hB⟩ _
    obtain ⟨V, hV⟩ : ∃ V, foldB c v pre = V := ⟨_, rfl⟩
    have hnext := Lib.hid (show foldB c v (pre ++ [x]) = stepB c x.1 V from by rw [foldB_snoc, hV])
    have hVs : V.size ≤ 140737488351232 := by rw [← hV]; exact foldB_le c _ (by omega) pre v hv
    rw [hV] at hb2
    have c1 := hb1.cell 0
    have c2 := hb2.cell 0
    simp only [List.getElem?_toArray, List.getElem?_cons_zero] at c1 c2
    have T := Lib.hid (tab_below HT.out hB)
    have B1 := Lib.hid hb1
    have B2 := Lib.hid hb2
    have HB := Lib.hid hB
    have hbz := hB.size
    have hlt := hb2.lt
    have HS := Lib.hid (fun (h : Tab W) => wstep_any c x.1 V hc x.2 hVs W h)
    clear hb1 hb2 hB hV hW0 bC bV bI bJ hB0
    gi_wp2_with (refine ⟨trivial, ?_⟩; gi_at_call 20; refine (CallsIn.inRound l (callsIn_wide.2 (HS.out T.out))).mono ?_; rintro e w2 ⟨rfl, h2⟩; have hc3 := (B2.out.below h2 hlt).cell 0; have hf3 := (B2.out.below h2 hlt).frozen 0; simp only [List.getElem?_toArray, List.getElem?_cons_zero] at hc3)
    refine ⟨(keeps_of_below h2).trans (KeepsOthers.setCell _ _ _), fun b => Blk.far (b.below h2 b.lt) (p := ⟨w.heap.size + 1, 0, none⟩) (by simp <;> omega) _, ⟨Blk.far (B1.out.below h2 B1.out.lt) (p := ⟨w.heap.size + 1, 0, none⟩) (by simp <;> omega) _, ?_⟩, (HB.out.trans (h2.mono hbz)).setCell (p := ⟨w.heap.size + 1, 0, none⟩) (by simp <;> omega) _⟩
    rw [hnext.out]
    exact (B2.out.below h2 hlt).set_ 0 _
  case done =>
    rintro D ys W hD rfl ⟨⟨hb1, hb2⟩, hB⟩ hK
    rw [HZ.out] at hb2
    have c2 := hb2.cell 0
    simp only [List.getElem?_toArray, List.getElem?_cons_zero] at c2
    gi_wp2
    refine ⟨by simp, .inl ⟨_, _, rfl, run_takeDeferred hK, ?_⟩⟩
    exact ⟨_, results_tmp rfl _ _ _, rfl, hB.trans (belowK_b (w := w) (Nat.le_refl _) W D _ _ (by omega) hK rfl rfl)⟩
  case stop =>
    rintro D c pre W _ _ h _
    exact h.elim
end Go.Proofs.YtncimfiiknbcfaaDoor.Sp
