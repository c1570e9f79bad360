/- Package sha: the rounds, each of which jumps back to the next. -/
import Derived.Test.YtncimfiiknbcfaaDoorShaSched
import Derived.WalkMore
import Derived.ScopeJumps
namespace Go.Proofs.YtncimfiiknbcfaaDoor.Sp
open Go Go.RowKit

attribute [local go_sem] add_U addm_U

/-- The table of constants, as it lies in memory. -/
def Tab (w : World) : Prop := ∀ i, i < 64 → w.cell? ⟨3, i, none⟩ = some (.int .u32 (U (kW i)))
theorem Tab.lt {w : World} (h : Tab w) : 3 < w.heap.size := block_lt_of_cell (h 0 (by omega))
theorem Tab.below {w w' : World} {B : Nat} (h : Tab w) (hb : Below B w w') (hB : 3 < B) : Tab w' := fun i hi => (hb.cell (p := ⟨3, i, none⟩) hB).trans (h i hi)

theorem heap_alloc3_new (w : World) (A B C : Obj) : (((w.alloc A).alloc B).alloc C).heap[w.heap.size + 1 + 1]? = some C := by
  have h := heap_alloc_new ((w.alloc A).alloc B) C
  have e : ((w.alloc A).alloc B).heap.size = w.heap.size + 1 + 1 := by simp
  rw [e] at h; exact h

/-- What holds at each jump back: k rounds are done. -/
def MixJ (B : Nat) (wa : World) (s : St) (ws : List W) (a' : Act) (w' : World) : Prop :=
  ∃ (k n : Nat) (S : St) (u : Nat → Value), k < 64 ∧ S = rounds ws k s ∧ w' = wa.drewN n ∧ a' = { tmps := #[.agg (arr s.ws), .agg (arr ws), .pointer (some ⟨B, 0, none⟩), .pointer (some ⟨B + 1, 0, none⟩), .pointer (some ⟨B + 1 + 1, 0, none⟩), .int .u32 (U S.a), .int .u32 (U S.b), .int .u32 (U S.c), .int .u32 (U S.d), .int .u32 (U S.e), .int .u32 (U S.f), .int .u32 (U S.g), .int .u32 (U S.h), .int .i64 (k : Int), u 14, u 15, u 16, u 17, u 18, u 19, u 20, u 21, u 22, u 23, u 24, u 25, u 26, u 27, u 28, u 29, u 30, u 31, u 32, u 33, u 34, u 35, u 36, u 37, u 38, u 39, u 40, u 41, u 42, u 43, u 44, u 45, u 46, u 47, u 48, u 49, u 50, u 51, u 52, u 53, u 54, u 55, u 56, u 57, u 58, u 59, u 60, u 61, u 62, u 63, u 64, u 65, u 66, u 67, u 68, u 69, u 70, u 71, undef, undef, undef, undef, undef, undef, undef, undef, undef], defers := [] }
theorem MixJ.mk {B : Nat} {wa : World} {s : St} {ws : List W} {a' : Act} {w' : World} (k n : Nat) (S : St) (hk : k < 64) (hS : S = rounds ws k s) (hw : w' = wa.drewN n) (hd : a'.defers = [])
    (ha : a'.tmps = #[.agg (arr s.ws), .agg (arr ws), .pointer (some ⟨B, 0, none⟩), .pointer (some ⟨B + 1, 0, none⟩), .pointer (some ⟨B + 1 + 1, 0, none⟩), .int .u32 (U S.a), .int .u32 (U S.b), .int .u32 (U S.c), .int .u32 (U S.d), .int .u32 (U S.e), .int .u32 (U S.f), .int .u32 (U S.g), .int .u32 (U S.h), .int .i64 (k : Int), a'.tmps.getD 14 undef, a'.tmps.getD 15 undef, a'.tmps.getD 16 undef, a'.tmps.getD 17 undef, a'.tmps.getD 18 undef, a'.tmps.getD 19 undef, a'.tmps.getD 20 undef, a'.tmps.getD 21 undef, a'.tmps.getD 22 undef, a'.tmps.getD 23 undef, a'.tmps.getD 24 undef, a'.tmps.getD 25 undef, a'.tmps.getD 26 undef, a'.tmps.getD 27 undef, a'.tmps.getD 28 undef, a'.tmps.getD 29 undef, a'.tmps.getD 30 undef, a'.tmps.getD 31 undef, a'.tmps.getD 32 undef, a'.tmps.getD 33 undef, a'.tmps.getD 34 undef, a'.tmps.getD 35 undef, a'.tmps.getD 36 undef, a'.tmps.getD 37 undef, a'.tmps.getD 38 undef, a'.tmps.getD 39 undef, a'.tmps.getD 40 undef, a'.tmps.getD 41 undef, a'.tmps.getD 42 undef, a'.tmps.getD 43 undef, a'.tmps.getD 44 undef, a'.tmps.getD 45 undef, a'.tmps.getD 46 undef, a'.tmps.getD 47 undef, a'.tmps.getD 48 undef, a'.tmps.getD 49 undef, a'.tmps.getD 50 undef, a'.tmps.getD 51 undef, a'.tmps.getD 52 undef, a'.tmps.getD 53 undef, a'.tmps.getD 54 undef, a'.tmps.getD 55 undef, a'.tmps.getD 56 undef, a'.tmps.getD 57 undef, a'.tmps.getD 58 undef, a'.tmps.getD 59 undef, a'.tmps.getD 60 undef, a'.tmps.getD 61 undef, a'.tmps.getD 62 undef, a'.tmps.getD 63 undef, a'.tmps.getD 64 undef, a'.tmps.getD 65 undef, a'.tmps.getD 66 undef, a'.tmps.getD 67 undef, a'.tmps.getD 68 undef, a'.tmps.getD 69 undef, a'.tmps.getD 70 undef, a'.tmps.getD 71 undef, undef, undef, undef, undef, undef, undef, undef, undef, undef]) : MixJ B wa s ws a' w' :=
  ⟨k, n, S, fun i => a'.tmps.getD i undef, hk, hS, hw, by cases a'; simp only at hd ha ⊢; subst hd; congr 1⟩

set_option maxHeartbeats 2000000 in
set_option maxRecDepth 100000 in
theorem mix_any (s : St) (ws : List W) (hws : ws.length = 64) (w : World) (hT : Tab w) :
    Calls Tryd.prog 67 #[.agg (arr s.ws), .agg (arr ws)] w fun e w' => e = .returned (.agg (arr (rounds ws 64 s).ws)) ∧ Below w.heap.size w w' := by
  have HL := Lib.hid hws
  clear hws
  have HT := Lib.hid hT
  clear hT
  go_enter Tryd.func67, Tryd.ntmps67
  go_wp2_with fail
  have hb0 : Blk (((w.alloc (.cells (arr s.ws) 68)).alloc (.cells (arr ws) 84)).alloc (.cells #[Value.int IntKind.u32 0, Value.int IntKind.u32 0, Value.int IntKind.u32 0, Value.int IntKind.u32 0, Value.int IntKind.u32 0, Value.int IntKind.u32 0, Value.int IntKind.u32 0, Value.int IntKind.u32 0] 68)) w.heap.size 68 (arr s.ws) := ((Blk.new w _ _).alloc _).alloc _
  have hb1 : Blk (((w.alloc (.cells (arr s.ws) 68)).alloc (.cells (arr ws) 84)).alloc (.cells #[Value.int IntKind.u32 0, Value.int IntKind.u32 0, Value.int IntKind.u32 0, Value.int IntKind.u32 0, Value.int IntKind.u32 0, Value.int IntKind.u32 0, Value.int IntKind.u32 0, Value.int IntKind.u32 0] 68)) (w.heap.size + 1) 84 (arr ws) := Blk.alloc (heap_alloc2_new _ _ _) _
  have hb2 : Blk (((w.alloc (.cells (arr s.ws) 68)).alloc (.cells (arr ws) 84)).alloc (.cells #[Value.int IntKind.u32 0, Value.int IntKind.u32 0, Value.int IntKind.u32 0, Value.int IntKind.u32 0, Value.int IntKind.u32 0, Value.int IntKind.u32 0, Value.int IntKind.u32 0, Value.int IntKind.u32 0] 68)) (w.heap.size + 1 + 1) 68 (part [] 8) := by
    rw [gap8]; exact heap_alloc3_new _ _ _ _
  have hbel : Below w.heap.size w (((w.alloc (.cells (arr s.ws) 68)).alloc (.cells (arr ws) 84)).alloc (.cells #[Value.int IntKind.u32 0, Value.int IntKind.u32 0, Value.int IntKind.u32 0, Value.int IntKind.u32 0, Value.int IntKind.u32 0, Value.int IntKind.u32 0, Value.int IntKind.u32 0, Value.int IntKind.u32 0] 68)) := (((Below.refl _ _).alloc (Nat.le_refl _) _).alloc (by simp) _).alloc (by simp; omega) _
  generalize ((w.alloc (.cells (arr s.ws) 68)).alloc (.cells (arr ws) 84)).alloc (.cells #[Value.int IntKind.u32 0, Value.int IntKind.u32 0, Value.int IntKind.u32 0, Value.int IntKind.u32 0, Value.int IntKind.u32 0, Value.int IntKind.u32 0, Value.int IntKind.u32 0, Value.int IntKind.u32 0] 68) = wa at *
  have HTa := Lib.hid (HT.out.below hbel HT.out.lt)
  have H0 := Lib.hid hb0
  have H1 := Lib.hid hb1
  have H2 := Lib.hid hb2
  have H3 := Lib.hid hbel
  clear hb0 hb1 hb2 hbel
  refine wp_scope_jumps 0 (MixJ w.heap.size wa s ws) (fun a' _ => 64 - (intOf (a'.tmps.getD 13 undef)).toNat) rfl ?_ ?_
  · have e0 : wa.cell? ⟨w.heap.size, 0, none⟩ = some (.int .u32 (U s.a)) := H0.out.cell 0
    have e1 : wa.cell? ⟨w.heap.size, 1, none⟩ = some (.int .u32 (U s.b)) := H0.out.cell 1
    have e2 : wa.cell? ⟨w.heap.size, 2, none⟩ = some (.int .u32 (U s.c)) := H0.out.cell 2
    have e3 : wa.cell? ⟨w.heap.size, 3, none⟩ = some (.int .u32 (U s.d)) := H0.out.cell 3
    have e4 : wa.cell? ⟨w.heap.size, 4, none⟩ = some (.int .u32 (U s.e)) := H0.out.cell 4
    have e5 : wa.cell? ⟨w.heap.size, 5, none⟩ = some (.int .u32 (U s.f)) := H0.out.cell 5
    have e6 : wa.cell? ⟨w.heap.size, 6, none⟩ = some (.int .u32 (U s.g)) := H0.out.cell 6
    have e7 : wa.cell? ⟨w.heap.size, 7, none⟩ = some (.int .u32 (U s.h)) := H0.out.cell 7
    go_wp2_with fail
    go_quiet (fail)
    revert nq; intro n1
    go_wp2_with fail
    go_quiet (fail)
    revert nq; intro n2
    go_wp2_with fail
    go_step3
    clear e0 e1 e2 e3 e4 e5 e6 e7
    have HTr := Lib.hid (show Tab ((wa.drewN n1).drewN n2) from HTa.out)
    have H1r := Lib.hid ((H1.out.drewN n1).drewN n2)
    have HW := Lib.hid (show (wa.drewN n1).drewN n2 = wa.drewN (n1 + n2) from World.drewN_drewN _ _ _)
    generalize (wa.drewN n1).drewN n2 = wr at *
    have cK : wr.cell? ⟨3, 0, none⟩ = some (.int .u32 (U (kW 0))) := HTr.out 0 (by omega)
    have cW : wr.cell? ⟨w.heap.size + 1, 0, none⟩ = some (.int .u32 (U (gW ws 0))) := (H1r.out.cell 0).trans (arr_get ws 0 (by rw [HL.out]; omega))
    go_wp2_with fail
    go_quiet ((first | (go_at_call 69; exact quiet_left (bigSigma1_any s.e _)) | (go_at_call 70; exact quiet_left (choose_any s.e s.f s.g _))))
    go_wp2_with fail
    refine (bigSigma0_any s.a _).mono ?_
    rintro e w1 ⟨rfl, rfl⟩
    go_wp2_with fail
    refine (majority_any s.a s.b s.c _).mono ?_
    rintro e w1 ⟨rfl, rfl⟩
    go_wp2_with fail
    go_step3
    exact ⟨rfl, MixJ.mk 1 (n1 + n2 + nq) (rounds ws 1 s) (by omega) rfl (by rw [HW.out, World.drewN_drewN]) rfl rfl⟩
  · rintro a' w' ⟨k, n, S, u, hk, hS, hw, ha⟩
    have HS := Lib.hid hS
    have HW := Lib.hid hw
    clear hS hw
    subst ha
    have HTr := Lib.hid (show Tab w' from fun i hi => by rw [HW.out]; exact HTa.out i hi)
    have H1r := Lib.hid (show Blk w' (w.heap.size + 1) 84 (arr ws) from by rw [HW.out]; exact H1.out.drewN n)
    have H2r := Lib.hid (show Blk w' (w.heap.size + 1 + 1) 68 (part [] 8) from by rw [HW.out]; exact H2.out.drewN n)
    generalize w' = wr at *
    have hki : (k : Int) < 64 := by omega
    have hk0 : (0 : Int) ≤ (k : Int) := by omega
    by_cases hlt : k + 1 < 64
    · have cK : wr.cell? ⟨3, k, none⟩ = some (.int .u32 (U (kW k))) := HTr.out k (by omega)
      have cW : wr.cell? ⟨w.heap.size + 1, k, none⟩ = some (.int .u32 (U (gW ws k))) := (H1r.out.cell k).trans (arr_get ws k (by rw [HL.out]; omega))
      go_wp2_with fail
      go_quiet ((first | (go_at_call 69; exact quiet_left (bigSigma1_any S.e _)) | (go_at_call 70; exact quiet_left (choose_any S.e S.f S.g _))))
      go_wp2_with fail
      refine (bigSigma0_any S.a _).mono ?_
      rintro e w1 ⟨rfl, rfl⟩
      go_wp2_with fail
      refine (majority_any S.a S.b S.c _).mono ?_
      rintro e w1 ⟨rfl, rfl⟩
      go_wp2_with fail
      go_step3
      refine ⟨rfl, MixJ.mk (k + 1) (n + nq) (rounds ws (k + 1) s) hlt rfl (by rw [HW.out, World.drewN_drewN]) rfl ?_, ?_⟩
      · rw [show rounds ws (k + 1) s = round S (kW k) (gW ws k) from by rw [HS.out]; rfl]
        rfl
      · simp [intOf]; omega
    · have HK := Lib.hid (show k + 1 = 64 from by omega)
      have hk1 : (64 : Int) ≤ (k : Int) + 1 := by omega
      have cK : wr.cell? ⟨3, k, none⟩ = some (.int .u32 (U (kW k))) := HTr.out k (by omega)
      have cW : wr.cell? ⟨w.heap.size + 1, k, none⟩ = some (.int .u32 (U (gW ws k))) := (H1r.out.cell k).trans (arr_get ws k (by rw [HL.out]; omega))
      go_wp2_with fail
      go_quiet ((first | (go_at_call 69; exact quiet_left (bigSigma1_any S.e _)) | (go_at_call 70; exact quiet_left (choose_any S.e S.f S.g _))))
      go_wp2_with fail
      refine (bigSigma0_any S.a _).mono ?_
      rintro e w1 ⟨rfl, rfl⟩
      go_wp2_with fail
      refine (majority_any S.a S.b S.c _).mono ?_
      rintro e w1 ⟨rfl, rfl⟩
      go_wp2_with (refine wpList_store_row rfl 68 (.tmp 4) (.tmp 80) rfl (w.heap.size + 1 + 1) (arr (round S (kW k) (gW ws k)).ws) rfl rfl 68 _ (H2r.out.drewN nq) cells8 rfl (arr_one _) ?_)
      simp only [Exit.jump]
      have e63 : rounds ws 64 s = round S (kW k) (gW ws k) := by rw [← HK.out, HS.out]; rfl
      have hB := Lib.hid (show Below w.heap.size w (wr.drewN nq) from by rw [HW.out]; exact below_drewN (below_drewN H3.out n) nq)
      exact ret_agg rfl (w.heap.size + 1 + 1) _ _ _ rfl ((H2r.out.drewN nq).row _) rfl Tryd.underlying68 rfl cells8 ⟨by rw [e63], below_setRow hB.out (by omega) _⟩

end Go.Proofs.YtncimfiiknbcfaaDoor.Sp
