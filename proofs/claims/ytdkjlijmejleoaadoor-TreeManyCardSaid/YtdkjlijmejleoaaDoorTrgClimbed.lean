/- Package tree: Climbed. -/
import Derived.Test.YtdkjlijmejleoaaDoorTrgClimb
import Derived.Test.YtdkjlijmejleoaaDoorTreB
import Derived.Maps.AppendAt
namespace Go.Proofs.YtdkjlijmejleoaaDoor.Sp
open Go Go.RowKit Go.Shelf
attribute [local go_sem] Oper.semAt_some
set_option maxRecDepth 100000

/-- The texts of the nodes that came. -/
def txts (pre : List Nd) : List ByteArray := pre.map Prod.snd
theorem txts_snoc (pre : List Nd) (y : Nd) : txts (pre ++ [y]) = txts pre ++ [y.2] := by simp [txts]
theorem txts_len (pre : List Nd) : (txts pre).length = pre.length := by simp [txts]
theorem txts_all (x : ByteArray) (I : Nat) (l : List ByteArray) (n : Nat) (hn : l.length = n) : txts ((List.range n).map (ndAt x I l)) = climbedB x I l := by
  apply List.ext_getElem
  · rw [txts_len, List.length_map, List.length_range, climbed_len, hn]
  · intro j h1 h2
    simp only [txts, List.map_map, List.getElem_map, List.getElem_range, Function.comp, ndAt]
    rw [List.getD_eq_getElem?_getD, List.getElem?_eq_getElem h2]
    rfl

set_option maxHeartbeats 4000000 in
theorem tclimbed_any (x : ByteArray) (i : Int) (l : List ByteArray) (a : Option Addr) (n cap : Nat) (w : World) (hn : n ≤ 4294967296) (hi : -9223372036854775808 ≤ i ∧ i ≤ 9223372036854775807)
    (hM : ∀ y ∈ l, x.size + y.size ≤ 281474976710647 ∧ 32 + y.size ≤ 281474976710647) (hl : Strs w a n l) (hT : Tab w) :
    Calls Tryd.prog 22 #[.string x, .int .i64 i, .slice a n cap] w (TextsTo (climbedI x i l) w) := by
  have hlen := hl.1
  obtain ⟨I, hI⟩ : ∃ I : Nat, i.toNat = I := ⟨_, rfl⟩
  have HZ := Lib.hid (show txts ((List.range n).map (ndAt x I l)) = climbedI x i l from by
    rw [txts_all x I l n hlen]; unfold climbedI; rw [hI])
  refine (callsIn_wide (n := 3)).1 ?_
  refine callsIn_of_wp_marks Tryd.func22 rfl trivial ?_ rfl
  simp only [Tryd.ntmps22, List.size_toArray, List.length_cons, List.length_nil, Nat.reduceAdd, Nat.reduceSub, Array.replicate_succ, Array.replicate_zero, List.push_toArray, List.append_toArray, List.nil_append, List.cons_append]
  gi_wp2_with (refine ⟨trivial, ?_⟩; gi_at_call 40; refine (callsIn_wide.2 (ascent_any x i a n cap _)).mono ?_; rintro e w' ⟨rfl, rfl⟩)
  obtain ⟨W0, hW0⟩ : ∃ W0, (((w.alloc (.cells #[.slice none 0 0] 22)).alloc (.cells #[.string x] 9)).alloc (.cells #[.int .i64 i] 3)).alloc (.cells #[.slice a n cap] 22) = W0 := ⟨_, rfl⟩
  have bV : Boxed W0 w.heap.size 22 (.slice none 0 0) := by rw [← hW0]; exact (((Boxed.new w _ _).alloc _).alloc _).alloc _
  have bX : Blk W0 (w.heap.size + 1) 9 #[.string x] := by
    have h := ((Blk.new (w.alloc (.cells #[.slice none 0 0] 22)) 9 #[.string x]).alloc (.cells #[.int .i64 i] 3)).alloc (.cells #[.slice a n cap] 22)
    rw [World.size_alloc] at h; rw [← hW0]; exact h
  have bI : Blk W0 (w.heap.size + 1 + 1) 3 #[.int .i64 i] := by
    have h := (Blk.new ((w.alloc (.cells #[.slice none 0 0] 22)).alloc (.cells #[.string x] 9)) 3 #[.int .i64 i]).alloc (.cells #[.slice a n cap] 22)
    rw [World.size_alloc, World.size_alloc] at h; rw [← hW0]; exact h
  have bP : Blk W0 (w.heap.size + 1 + 1 + 1) 22 #[.slice a n cap] := by
    have h := Blk.new (((w.alloc (.cells #[.slice none 0 0] 22)).alloc (.cells #[.string x] 9)).alloc (.cells #[.int .i64 i] 3)) 22 #[.slice a n cap]
    rw [World.size_alloc, World.size_alloc, World.size_alloc] at h; rw [← hW0]; exact h
  have hB0 : Below w.heap.size w W0 := by
    rw [← hW0]; exact ((((Below.refl _ _).alloc (Nat.le_refl _) _).alloc (by simp) _).alloc (by simp; omega) _).alloc (by simp; omega) _
  rw [hW0]
  have hPlt := bP.lt
  have hS0 : w.heap.size + 4 ≤ W0.heap.size := by omega
  refine range_cells rfl (by omega) (gf := 49) (lb := #[.pointer (some ⟨w.heap.size + 1 + 1, 0, none⟩), .pointer (some ⟨w.heap.size + 1, 0, none⟩), .pointer (some ⟨w.heap.size + 1 + 1 + 1, 0, none⟩)]) rfl trivial (enters_of Tryd.func49 (by kernel_rfl) rfl)
    (ascent_stops (3 - 1) (by omega) x i hi I hI l a n cap (by omega) hM w W0 hl hT hB0 (w.heap.size + 1 + 1) (w.heap.size + 1) (w.heap.size + 1 + 1 + 1) bI bX bP)
    hB0.size (Below.refl _ _) (fun _ => rfl)
    (fun pre W => (∃ v, Boxed W w.heap.size 22 v ∧ W.ownsRow w.heap.size 9 1 v (txts pre).length ((txts pre).map Value.string) ∧ v.ownBlock ≠ some (W0.heap.size + 2)) ∧ Below w.heap.size w W)
    (OwnFrom.and (Own.from (holdsRow_own w.heap.size w.heap.size 22 9 1 (fun pre => (txts pre).length) (fun pre => (txts pre).map Value.string) (fun _ v => v.ownBlock ≠ some (W0.heap.size + 2))) _) (ownFrom_below (Nat.le_refl _) (by omega)))
    (fun s A B hs hg _ => by
      obtain ⟨⟨v, h1, h2, h3⟩, h4⟩ := hs
      exact ⟨⟨v, h1.kept hg (by simp; omega), h2.kept hg (.inr h3), h3⟩, h4.grown hg h4.size (fun k e => by cases e; omega)⟩)
    ⟨⟨_, bV, World.ownsRow_nil _ _ _ _, by simp [Value.ownBlock]⟩, hB0⟩
    (fun y => .cells #[.string y.1, .string y.2] 48)
    (fun y B => { tmps := #[.string x, .int .i64 i, .slice a n cap, undef, undef, undef, .slice none 0 0, .pointer (some ⟨w.heap.size, 0, none⟩), .pointer (some ⟨B, 0, none⟩), .string x, .int .i64 i, .slice a n cap,
      .func (.func 49) #[] #[.pointer (some ⟨w.heap.size + 1 + 1, 0, none⟩), .pointer (some ⟨w.heap.size + 1, 0, none⟩), .pointer (some ⟨w.heap.size + 1 + 1 + 1, 0, none⟩)], .agg #[.string y.1, .string y.2], undef, undef, undef, undef, undef, undef], defers := [] }) ?assign ?body ?done
  case assign =>
    intro lb y W K hK
    gi_wp2
    exact hK
  case body =>
    rintro lb pre y B W hBlt hBk ⟨cs0, hcs0⟩ ⟨⟨v, hb1, hown, hne⟩, hB⟩ hpre
    have HC0 := Lib.hid hcs0
    have hBk' : Blk W B 48 #[.string y.1, .string y.2] := hBk
    have c1 := hb1.cell
    have c2 := hBk'.cell 1
    simp only [List.getElem?_toArray, List.getElem?_cons_zero, List.getElem?_cons_succ] at c2
    have B1 := Lib.hid hb1
    have HB := Lib.hid hB
    have hbz := hB.size
    have HS0 := Lib.hid hS0
    have HOn := Lib.hid hown
    have HNe := Lib.hid hne
    obtain ⟨k, hk⟩ : ∃ k, (txts pre).length = k := ⟨_, rfl⟩
    obtain ⟨Xs, eXs⟩ : ∃ Xs : List Value, (txts pre).map Value.string = Xs := ⟨_, rfl⟩
    have hkn : k < n := by rw [← hk, txts_len]; exact hpre
    have Hnext := Lib.hid (show (txts (pre ++ [y])).length = k + 1 ∧ (txts (pre ++ [y])).map Value.string = Xs ++ [.string y.2] from by
      rw [txts_snoc, List.length_append, List.map_append, hk, eXs]; exact ⟨rfl, rfl⟩)
    rw [hk, eXs] at HOn
    obtain ⟨i0, hi0, hz0, hz1, hz2⟩ := info_parts infoText
    have hk8 : k + 1 ≤ maxLen := by unfold maxLen; omega
    have hkb : (k + 1) * 16 ≤ 140737488355328 := by omega
    have hWB : W0.heap.size + 2 < W.heap.size := Nat.lt_trans hBlt hBk'.lt
    clear hcs0 hb1 hB hBk hBk' hW0 bV bX bI bP hB0 hS0 hown hne hk eXs hpre
    gi_wp2_with (gi_at_builtin; refine wpListIn_append_own _ rfl _ _ 22 rfl w.heap.size 9 i0 (.string .empty) 1 16 Tryd.underlying22 hi0 hz0 hz1 hz2 rfl (by decide) v k Xs rfl (HOn.out.alloc _) ⟨W.heap.size, 0, none⟩ 1 1 [.string y.2] rfl rfl (cell_one_new _ _ _) (by simp [Value.oneCell']) hk8 hkb (by simp; omega) ?_; intro v' w1 hown' hgrow _; obtain ⟨g', cap', rfl⟩ := ownsRow_succ hown'; obtain ⟨hv1, hv2, hr2, hk2, hb2⟩ := B1.out.appended (by decide) HOn.out hbz (Nat.le_refl _) hown' hgrow; have hc1 := hv1.cell; have hf1 := hv1.frozen)
    have hcs1 : Blk w1 (W0.heap.size + 2) 48 cs0 := (HC0.out.alloc _).grown hgrow (fun e => HNe.out e.symm)
    have hne2 : g' ≠ W0.heap.size + 2 := fun e => by
      have h9 := own_blk_ne hown' hcs1 (by decide)
      exact h9 (by rw [← e]; rfl)
    refine ⟨fun cs h => ?_, ⟨_, hv2, ?_, fun e => hne2 (by injection e)⟩, HB.out.trans hb2⟩
    · exact Blk.far ((h.alloc _).grown hgrow (fun e => HNe.out e.symm)) (p := ⟨w.heap.size, 0, none⟩) (by have := HS0.out; simp <;> omega) _
    · rw [Hnext.out.1, Hnext.out.2]
      exact hr2
  case done =>
    rintro D ys W hD rfl ⟨⟨v, hb1, hown, hne⟩, hB⟩ hK
    rw [HZ.out] at hown
    have c1 := hb1.cell
    have HK := Lib.hid hK
    have HB := Lib.hid hB
    have HOn := Lib.hid (show OwnT W w.heap.size v (climbedI x i l) from hown)
    clear hb1 hB hK hown
    gi_wp2
    have hK' := HK.out
    have hown2 : OwnT (W.putObj D (.deferred none)) w.heap.size v (climbedI x i l) := ownsRow_putObj HOn.out _ hK' rfl
    obtain ⟨a2, c2, rfl, hs2, hfr, hcap⟩ := hown2.strs_
    refine ⟨by simp, .inl ⟨_, _, rfl, run_takeDeferred hK', ?_⟩⟩
    exact ⟨_, results_tmp rfl _ _ _, a2, c2, rfl, hs2, HB.out.trans (belowK_b (w := w) (Nat.le_refl _) W D _ _ (by omega) hK' rfl rfl), fun p hp => (hfr p hp).1, hcap⟩
end Go.Proofs.YtdkjlijmejleoaaDoor.Sp
