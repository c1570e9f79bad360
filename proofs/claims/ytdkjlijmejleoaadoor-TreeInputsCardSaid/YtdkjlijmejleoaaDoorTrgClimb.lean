/- Package tree: Climb. -/
import Derived.Test.YtdkjlijmejleoaaDoorTrgAsc
import Derived.Test.YtdkjlijmejleoaaDoorTrgA
namespace Go.Proofs.YtdkjlijmejleoaaDoor.Sp
open Go Go.RowKit Go.Shelf
attribute [local go_sem] Oper.semAt_some
set_option maxRecDepth 100000

theorem blk_own_t {β : Type} {g : Nat} {t : TypeId} (cs : β → Array Value) : Go.Own (fun (s : β) W => Blk W g t (cs s)) := fun s W W' row hs hg hr => hs.grown hg (by
  intro e
  obtain ⟨o, ho, hc⟩ := hr g e.symm
  rw [show W.heap[g]? = _ from hs] at ho
  cases ho
  cases hc)
/-- The value of the last node that came, or the leaf. -/
def lastV (x : ByteArray) (pre : List Nd) : ByteArray := pre.foldl (fun _ y => y.1) x
theorem lastV_snoc (x : ByteArray) (pre : List Nd) (y : Nd) : lastV x (pre ++ [y]) = y.1 := by simp [lastV]
theorem lastV_upto (x : ByteArray) (I : Nat) (l : List ByteArray) : ∀ k, lastV x ((List.range k).map (ndAt x I l)) = climbB x I (l.take k)
  | 0 => by simp [lastV, climbB]
  | k + 1 => by rw [ranges_next, lastV_snoc]; rfl

set_option maxHeartbeats 4000000 in
theorem tclimb_any (x : ByteArray) (i : Int) (l : List ByteArray) (a : Option Addr) (n cap : Nat) (w : World) (hn : n ≤ 4294967296) (hi : -9223372036854775808 ≤ i ∧ i ≤ 9223372036854775807) (hx : x.size ≤ 140737488355328)
    (hM : ∀ y ∈ l, x.size + y.size ≤ 281474976710647 ∧ 32 + y.size ≤ 281474976710647) (hl : Strs w a n l) (hT : Tab w) :
    Calls Tryd.prog 20 #[.string x, .int .i64 i, .slice a n cap] w fun e w' => e = .returned (.string (climbI x i l)) ∧ Below w.heap.size w w' := by
  have hlen := hl.1
  obtain ⟨I, hI⟩ : ∃ I : Nat, i.toNat = I := ⟨_, rfl⟩
  obtain ⟨Z, hZ⟩ : ∃ Z, climbI x i l = Z := ⟨_, rfl⟩
  have HZ := Lib.hid (show lastV x ((List.range n).map (ndAt x I l)) = Z from by
    rw [lastV_upto, List.take_of_length_le (by omega), ← hZ]; unfold climbI; rw [hI])
  have hZs : Z.size ≤ 140737488355328 := by
    rw [← hZ]; unfold climbI
    rcases climb_size l x i.toNat with ⟨_, h2⟩ | h2
    · rw [h2]; omega
    · rw [h2]; omega
  rw [hZ]
  clear hZ
  refine (callsIn_wide (n := 3)).1 ?_
  refine callsIn_of_wp_marks Tryd.func20 rfl trivial ?_ rfl
  simp only [Tryd.ntmps20, List.size_toArray, List.length_cons, List.length_nil, Nat.reduceAdd, Nat.reduceSub, Array.replicate_succ, Array.replicate_zero, List.push_toArray, List.append_toArray, List.nil_append, List.cons_append]
  gi_wp2_with (refine ⟨trivial, ?_⟩; gi_at_call 40; refine (callsIn_wide.2 (ascent_any x i a n cap _)).mono ?_; rintro e w' ⟨rfl, rfl⟩)
  obtain ⟨W0, hW0⟩ : ∃ W0, (((w.alloc (.cells #[.string x] 9)).alloc (.cells #[.string x] 9)).alloc (.cells #[.int .i64 i] 3)).alloc (.cells #[.slice a n cap] 22) = W0 := ⟨_, rfl⟩
  have bV : Blk W0 w.heap.size 9 #[.string x] := by rw [← hW0]; exact (((Blk.new w _ _).alloc _).alloc _).alloc _
  have bX : Blk W0 (w.heap.size + 1) 9 #[.string x] := by
    have h := ((Blk.new (w.alloc (.cells #[.string x] 9)) 9 #[.string x]).alloc (.cells #[.int .i64 i] 3)).alloc (.cells #[.slice a n cap] 22)
    rw [World.size_alloc] at h; rw [← hW0]; exact h
  have bI : Blk W0 (w.heap.size + 1 + 1) 3 #[.int .i64 i] := by
    have h := (Blk.new ((w.alloc (.cells #[.string x] 9)).alloc (.cells #[.string x] 9)) 3 #[.int .i64 i]).alloc (.cells #[.slice a n cap] 22)
    rw [World.size_alloc, World.size_alloc] at h; rw [← hW0]; exact h
  have bP : Blk W0 (w.heap.size + 1 + 1 + 1) 22 #[.slice a n cap] := by
    have h := Blk.new (((w.alloc (.cells #[.string x] 9)).alloc (.cells #[.string x] 9)).alloc (.cells #[.int .i64 i] 3)) 22 #[.slice a n cap]
    rw [World.size_alloc, World.size_alloc, World.size_alloc] at h; rw [← hW0]; exact h
  have hB0 : Below w.heap.size w W0 := by
    rw [← hW0]; exact ((((Below.refl _ _).alloc (Nat.le_refl _) _).alloc (by simp) _).alloc (by simp; omega) _).alloc (by simp; omega) _
  rw [hW0]
  have hPlt := bP.lt
  have hS0 : w.heap.size + 4 ≤ W0.heap.size := by omega
  refine range_cells rfl (by omega) (gf := 49) (lb := #[.pointer (some ⟨w.heap.size + 1 + 1, 0, none⟩), .pointer (some ⟨w.heap.size + 1, 0, none⟩), .pointer (some ⟨w.heap.size + 1 + 1 + 1, 0, none⟩)]) rfl trivial (enters_of Tryd.func49 (by kernel_rfl) rfl)
    (ascent_stops (3 - 1) (by omega) x i hi I hI l a n cap (by omega) hM w W0 hl hT hB0 (w.heap.size + 1 + 1) (w.heap.size + 1) (w.heap.size + 1 + 1 + 1) bI bX bP)
    hB0.size (Below.refl _ _) (fun _ => rfl)
    (fun pre W => Blk W w.heap.size 9 #[.string (lastV x pre)] ∧ Below w.heap.size w W)
    (OwnFrom.and (Own.from (blk_own_t (fun pre => #[.string (lastV x pre)])) _) (ownFrom_below (Nat.le_refl _) (by omega)))
    (fun s A B hs hg _ => ⟨hs.1.grown hg (by simp; omega), hs.2.grown hg hs.2.size (fun k e => by cases e; omega)⟩)
    ⟨bV, hB0⟩
    (fun y => .cells #[.string y.1, .string y.2] 48)
    (fun y B => { tmps := #[.string x, .int .i64 i, .slice a n cap, undef, undef, undef, .string { data := #[] }, .pointer (some ⟨w.heap.size, 0, none⟩), .pointer (some ⟨B, 0, none⟩), .string x, .string x, .int .i64 i, .slice a n cap,
      .func (.func 49) #[] #[.pointer (some ⟨w.heap.size + 1 + 1, 0, none⟩), .pointer (some ⟨w.heap.size + 1, 0, none⟩), .pointer (some ⟨w.heap.size + 1 + 1 + 1, 0, none⟩)], .agg #[.string y.1, .string y.2], undef, undef, undef, undef], defers := [] }) ?assign ?body ?done
  case assign =>
    intro lb y W K hK
    gi_wp2
    exact hK
  case body =>
    rintro lb pre y B W hBlt hBk _ ⟨hb1, hB⟩ _
    have hBk' : Blk W B 48 #[.string y.1, .string y.2] := hBk
    have c1 := hb1.cell 0
    have f1 := hb1.frozen 0
    have c2 := hBk'.cell 0
    simp only [List.getElem?_toArray, List.getElem?_cons_zero] at c1 c2
    have B1 := Lib.hid hb1
    have HB := Lib.hid hB
    have hbz := hB.size
    have HS0 := Lib.hid hS0
    clear hb1 hB hBk hBk' hW0 bV bX bI bP hB0 hS0
    gi_wp2
    refine ⟨KeepsOthers.setCell _ _ _, (Below.refl w.heap.size W).setCell (p := ⟨w.heap.size, 0, none⟩) (Nat.le_refl _) _, fun cs h => Blk.far h (p := ⟨w.heap.size, 0, none⟩) (by have := HS0.out; simp <;> omega) _, ?_, HB.out.setCell (p := ⟨w.heap.size, 0, none⟩) (Nat.le_refl _) _⟩
    rw [lastV_snoc]
    exact B1.out.set_ 0 _
  case done =>
    rintro D ys W hD rfl ⟨hb1, hB⟩ hK
    rw [HZ.out] at hb1
    have c1 := hb1.cell 0
    simp only [List.getElem?_toArray, List.getElem?_cons_zero] at c1
    have HK := Lib.hid hK
    have HB := Lib.hid hB
    clear hb1 hB hK
    gi_wp2_with (refine ⟨trivial, ?_⟩; gi_at_call 32; refine (callsIn_wide.2 (clone_any Z _ hZs)).mono ?_; rintro e w' ⟨rfl, h3⟩)
    have hK' : w'.heap[D]? = some (.deferred (some [])) := (h3.block D (Array.getElem?_eq_some_iff.1 HK.out).1).trans HK.out
    have hB' := HB.out.trans (h3.mono HB.out.size)
    refine ⟨by simp, .inl ⟨_, _, rfl, run_takeDeferred hK', ?_⟩⟩
    exact ⟨_, results_tmp rfl _ _ _, rfl, hB'.trans (belowK_b (w := w) (Nat.le_refl _) w' D _ _ (by omega) hK' rfl rfl)⟩
end Go.Proofs.YtdkjlijmejleoaaDoor.Sp
