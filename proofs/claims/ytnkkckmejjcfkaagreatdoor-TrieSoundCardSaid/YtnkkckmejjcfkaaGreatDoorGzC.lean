/- Package sha: the rounds, each of which jumps back to the next. -/
import Derived.Test.YtnkkckmejjcfkaaGreatDoorGzB
import Derived.WalkMore
import Derived.ScopeJumps
import Derived.Deep.RegionWith
import Derived.Deep.RegionHeld3
import Derived.StillTailTactics
import Derived.Deep.DeepCutAuto
import Derived.WalkSpells
import Derived.Lib.Strings
import Derived.Lib.IndexBytes
namespace Go.Proofs.YtnkkckmejjcfkaaGreatDoor.Sp
open Go Go.RowKit

attribute [local go_sem] add_U addm_U

/-- The table of constants, as it lies in memory. -/
def Tab (w : World) : Prop := ∀ i, i < 64 → w.cell? ⟨3, i, none⟩ = some (.int .u32 (U (kW i)))
theorem Tab.lt {w : World} (h : Tab w) : 3 < w.heap.size := block_lt_of_cell (h 0 (by omega))
theorem Tab.below {w w' : World} {B : Nat} (h : Tab w) (hb : Below B w w') (hB : 3 < B) : Tab w' := fun i hi => (hb.cell (p := ⟨3, i, none⟩) hB).trans (h i hi)

theorem heap_alloc3_new (w : World) (A B C : Obj) : (((w.alloc A).alloc B).alloc C).heap[w.heap.size + 1 + 1]? = some C := by
  have h := heap_alloc_new ((w.alloc A).alloc B) C
  have e : ((w.alloc A).alloc B).heap.size = w.heap.size + 1 + 1 := by simp
  rw [e] at h; exact h

/-- What holds at each jump back: k rounds are done. -/
def MixJ (B : Nat) (wa : World) (s : St) (ws : List W) (a' : Act) (w' : World) : Prop :=
  ∃ (k n : Nat) (S : St) (u : Nat → Value), k < 64 ∧ S = rounds ws k s ∧ w' = wa.drewN n ∧ a' = { tmps := #[.agg (arr s.ws), .agg (arr ws), .pointer (some ⟨B, 0, none⟩), .pointer (some ⟨B + 1, 0, none⟩), .pointer (some ⟨B + 1 + 1, 0, none⟩), .int .u32 (U S.a), .int .u32 (U S.b), .int .u32 (U S.c), .int .u32 (U S.d), .int .u32 (U S.e), .int .u32 (U S.f), .int .u32 (U S.g), .int .u32 (U S.h), .int .i64 (k : Int), u 14, u 15, u 16, u 17, u 18, u 19, u 20, u 21, u 22, u 23, u 24, u 25, u 26, u 27, u 28, u 29, u 30, u 31, u 32, u 33, u 34, u 35, u 36, u 37, u 38, u 39, u 40, u 41, u 42, u 43, u 44, u 45, u 46, u 47, u 48, u 49, u 50, u 51, u 52, u 53, u 54, u 55, u 56, u 57, u 58, u 59, u 60, u 61, u 62, u 63, u 64, u 65, u 66, u 67, u 68, u 69, u 70, u 71, undef, undef, undef, undef, undef, undef, undef, undef, undef], defers := [] }
theorem MixJ.mk {B : Nat} {wa : World} {s : St} {ws : List W} {a' : Act} {w' : World} (k n : Nat) (S : St) (hk : k < 64) (hS : S = rounds ws k s) (hw : w' = wa.drewN n) (hd : a'.defers = [])
    (ha : a'.tmps = #[.agg (arr s.ws), .agg (arr ws), .pointer (some ⟨B, 0, none⟩), .pointer (some ⟨B + 1, 0, none⟩), .pointer (some ⟨B + 1 + 1, 0, none⟩), .int .u32 (U S.a), .int .u32 (U S.b), .int .u32 (U S.c), .int .u32 (U S.d), .int .u32 (U S.e), .int .u32 (U S.f), .int .u32 (U S.g), .int .u32 (U S.h), .int .i64 (k : Int), a'.tmps.getD 14 undef, a'.tmps.getD 15 undef, a'.tmps.getD 16 undef, a'.tmps.getD 17 undef, a'.tmps.getD 18 undef, a'.tmps.getD 19 undef, a'.tmps.getD 20 undef, a'.tmps.getD 21 undef, a'.tmps.getD 22 undef, a'.tmps.getD 23 undef, a'.tmps.getD 24 undef, a'.tmps.getD 25 undef, a'.tmps.getD 26 undef, a'.tmps.getD 27 undef, a'.tmps.getD 28 undef, a'.tmps.getD 29 undef, a'.tmps.getD 30 undef, a'.tmps.getD 31 undef, a'.tmps.getD 32 undef, a'.tmps.getD 33 undef, a'.tmps.getD 34 undef, a'.tmps.getD 35 undef, a'.tmps.getD 36 undef, a'.tmps.getD 37 undef, a'.tmps.getD 38 undef, a'.tmps.getD 39 undef, a'.tmps.getD 40 undef, a'.tmps.getD 41 undef, a'.tmps.getD 42 undef, a'.tmps.getD 43 undef, a'.tmps.getD 44 undef, a'.tmps.getD 45 undef, a'.tmps.getD 46 undef, a'.tmps.getD 47 undef, a'.tmps.getD 48 undef, a'.tmps.getD 49 undef, a'.tmps.getD 50 undef, a'.tmps.getD 51 undef, a'.tmps.getD 52 undef, a'.tmps.getD 53 undef, a'.tmps.getD 54 undef, a'.tmps.getD 55 undef, a'.tmps.getD 56 undef, a'.tmps.getD 57 undef, a'.tmps.getD 58 undef, a'.tmps.getD 59 undef, a'.tmps.getD 60 undef, a'.tmps.getD 61 undef, a'.tmps.getD 62 undef, a'.tmps.getD 63 undef, a'.tmps.getD 64 undef, a'.tmps.getD 65 undef, a'.tmps.getD 66 undef, a'.tmps.getD 67 undef, a'.tmps.getD 68 undef, a'.tmps.getD 69 undef, a'.tmps.getD 70 undef, a'.tmps.getD 71 undef, undef, undef, undef, undef, undef, undef, undef, undef, undef]) : MixJ B wa s ws a' w' :=
  ⟨k, n, S, fun i => a'.tmps.getD i undef, hk, hS, hw, by cases a'; simp only at hd ha ⊢; subst hd; congr 1⟩

set_option maxHeartbeats 2000000 in
set_option maxRecDepth 100000 in
theorem mix_any (s : St) (ws : List W) (hws : ws.length = 64) (w : World) (hT : Tab w) :
    Calls Tryz.prog 94 #[.agg (arr s.ws), .agg (arr ws)] w fun e w' => e = .returned (.agg (arr (rounds ws 64 s).ws)) ∧ Below w.heap.size w w' := by
  have HL := Lib.hid hws
  clear hws
  have HT := Lib.hid hT
  clear hT
  go_enter Tryz.func94, Tryz.ntmps94
  go_wp2_with fail
  have hb0 : Blk (((w.alloc (.cells (arr s.ws) 101)).alloc (.cells (arr ws) 116)).alloc (.cells #[Value.int IntKind.u32 0, Value.int IntKind.u32 0, Value.int IntKind.u32 0, Value.int IntKind.u32 0, Value.int IntKind.u32 0, Value.int IntKind.u32 0, Value.int IntKind.u32 0, Value.int IntKind.u32 0] 101)) w.heap.size 101 (arr s.ws) := ((Blk.new w _ _).alloc _).alloc _
  have hb1 : Blk (((w.alloc (.cells (arr s.ws) 101)).alloc (.cells (arr ws) 116)).alloc (.cells #[Value.int IntKind.u32 0, Value.int IntKind.u32 0, Value.int IntKind.u32 0, Value.int IntKind.u32 0, Value.int IntKind.u32 0, Value.int IntKind.u32 0, Value.int IntKind.u32 0, Value.int IntKind.u32 0] 101)) (w.heap.size + 1) 116 (arr ws) := Blk.alloc (heap_alloc2_new _ _ _) _
  have hb2 : Blk (((w.alloc (.cells (arr s.ws) 101)).alloc (.cells (arr ws) 116)).alloc (.cells #[Value.int IntKind.u32 0, Value.int IntKind.u32 0, Value.int IntKind.u32 0, Value.int IntKind.u32 0, Value.int IntKind.u32 0, Value.int IntKind.u32 0, Value.int IntKind.u32 0, Value.int IntKind.u32 0] 101)) (w.heap.size + 1 + 1) 101 (part [] 8) := by
    rw [gap8]; exact heap_alloc3_new _ _ _ _
  have hbel : Below w.heap.size w (((w.alloc (.cells (arr s.ws) 101)).alloc (.cells (arr ws) 116)).alloc (.cells #[Value.int IntKind.u32 0, Value.int IntKind.u32 0, Value.int IntKind.u32 0, Value.int IntKind.u32 0, Value.int IntKind.u32 0, Value.int IntKind.u32 0, Value.int IntKind.u32 0, Value.int IntKind.u32 0] 101)) := (((Below.refl _ _).alloc (Nat.le_refl _) _).alloc (by simp) _).alloc (by simp; omega) _
  generalize ((w.alloc (.cells (arr s.ws) 101)).alloc (.cells (arr ws) 116)).alloc (.cells #[Value.int IntKind.u32 0, Value.int IntKind.u32 0, Value.int IntKind.u32 0, Value.int IntKind.u32 0, Value.int IntKind.u32 0, Value.int IntKind.u32 0, Value.int IntKind.u32 0, Value.int IntKind.u32 0] 101) = wa at *
  have HTa := Lib.hid (HT.out.below hbel HT.out.lt)
  have H0 := Lib.hid hb0
  have H1 := Lib.hid hb1
  have H2 := Lib.hid hb2
  have H3 := Lib.hid hbel
  clear hb0 hb1 hb2 hbel
  refine wp_scope_jumps 0 (MixJ w.heap.size wa s ws) (fun a' _ => 64 - (intOf (a'.tmps.getD 13 undef)).toNat) rfl ?_ ?_
  · have e0 : wa.cell? ⟨w.heap.size, 0, none⟩ = some (.int .u32 (U s.a)) := H0.out.cell 0
    have e1 : wa.cell? ⟨w.heap.size, 1, none⟩ = some (.int .u32 (U s.b)) := H0.out.cell 1
    have e2 : wa.cell? ⟨w.heap.size, 2, none⟩ = some (.int .u32 (U s.c)) := H0.out.cell 2
    have e3 : wa.cell? ⟨w.heap.size, 3, none⟩ = some (.int .u32 (U s.d)) := H0.out.cell 3
    have e4 : wa.cell? ⟨w.heap.size, 4, none⟩ = some (.int .u32 (U s.e)) := H0.out.cell 4
    have e5 : wa.cell? ⟨w.heap.size, 5, none⟩ = some (.int .u32 (U s.f)) := H0.out.cell 5
    have e6 : wa.cell? ⟨w.heap.size, 6, none⟩ = some (.int .u32 (U s.g)) := H0.out.cell 6
    have e7 : wa.cell? ⟨w.heap.size, 7, none⟩ = some (.int .u32 (U s.h)) := H0.out.cell 7
    go_wp2_with fail
    go_quiet (fail)
    revert nq; intro n1
    go_wp2_with fail
    go_quiet (fail)
    revert nq; intro n2
    go_wp2_with fail
    go_step3
    clear e0 e1 e2 e3 e4 e5 e6 e7
    have HTr := Lib.hid (show Tab ((wa.drewN n1).drewN n2) from HTa.out)
    have H1r := Lib.hid ((H1.out.drewN n1).drewN n2)
    have HW := Lib.hid (show (wa.drewN n1).drewN n2 = wa.drewN (n1 + n2) from World.drewN_drewN _ _ _)
    generalize (wa.drewN n1).drewN n2 = wr at *
    have cK : wr.cell? ⟨3, 0, none⟩ = some (.int .u32 (U (kW 0))) := HTr.out 0 (by omega)
    have cW : wr.cell? ⟨w.heap.size + 1, 0, none⟩ = some (.int .u32 (U (gW ws 0))) := (H1r.out.cell 0).trans (arr_get ws 0 (by rw [HL.out]; omega))
    go_wp2_with fail
    go_quiet ((first | (go_at_call 109; exact quiet_left (bigSigma1_any s.e _)) | (go_at_call 110; exact quiet_left (choose_any s.e s.f s.g _))))
    go_wp2_with fail
    refine (bigSigma0_any s.a _).mono ?_
    rintro e w1 ⟨rfl, rfl⟩
    go_wp2_with fail
    refine (majority_any s.a s.b s.c _).mono ?_
    rintro e w1 ⟨rfl, rfl⟩
    go_wp2_with fail
    go_step3
    exact ⟨rfl, MixJ.mk 1 (n1 + n2 + nq) (rounds ws 1 s) (by omega) rfl (by rw [HW.out, World.drewN_drewN]) rfl rfl⟩
  · rintro a' w' ⟨k, n, S, u, hk, hS, hw, ha⟩
    have HS := Lib.hid hS
    have HW := Lib.hid hw
    clear hS hw
    subst ha
    have HTr := Lib.hid (show Tab w' from fun i hi => by rw [HW.out]; exact HTa.out i hi)
    have H1r := Lib.hid (show Blk w' (w.heap.size + 1) 116 (arr ws) from by rw [HW.out]; exact H1.out.drewN n)
    have H2r := Lib.hid (show Blk w' (w.heap.size + 1 + 1) 101 (part [] 8) from by rw [HW.out]; exact H2.out.drewN n)
    generalize w' = wr at *
    have hki : (k : Int) < 64 := by omega
    have hk0 : (0 : Int) ≤ (k : Int) := by omega
    by_cases hlt : k + 1 < 64
    · have cK : wr.cell? ⟨3, k, none⟩ = some (.int .u32 (U (kW k))) := HTr.out k (by omega)
      have cW : wr.cell? ⟨w.heap.size + 1, k, none⟩ = some (.int .u32 (U (gW ws k))) := (H1r.out.cell k).trans (arr_get ws k (by rw [HL.out]; omega))
      go_wp2_with fail
      go_quiet ((first | (go_at_call 109; exact quiet_left (bigSigma1_any S.e _)) | (go_at_call 110; exact quiet_left (choose_any S.e S.f S.g _))))
      go_wp2_with fail
      refine (bigSigma0_any S.a _).mono ?_
      rintro e w1 ⟨rfl, rfl⟩
      go_wp2_with fail
      refine (majority_any S.a S.b S.c _).mono ?_
      rintro e w1 ⟨rfl, rfl⟩
      go_wp2_with fail
      go_step3
      refine ⟨rfl, MixJ.mk (k + 1) (n + nq) (rounds ws (k + 1) s) hlt rfl (by rw [HW.out, World.drewN_drewN]) rfl ?_, ?_⟩
      · rw [show rounds ws (k + 1) s = round S (kW k) (gW ws k) from by rw [HS.out]; rfl]
        rfl
      · simp [intOf]; omega
    · have HK := Lib.hid (show k + 1 = 64 from by omega)
      have hk1 : (64 : Int) ≤ (k : Int) + 1 := by omega
      have cK : wr.cell? ⟨3, k, none⟩ = some (.int .u32 (U (kW k))) := HTr.out k (by omega)
      have cW : wr.cell? ⟨w.heap.size + 1, k, none⟩ = some (.int .u32 (U (gW ws k))) := (H1r.out.cell k).trans (arr_get ws k (by rw [HL.out]; omega))
      go_wp2_with fail
      go_quiet ((first | (go_at_call 109; exact quiet_left (bigSigma1_any S.e _)) | (go_at_call 110; exact quiet_left (choose_any S.e S.f S.g _))))
      go_wp2_with fail
      refine (bigSigma0_any S.a _).mono ?_
      rintro e w1 ⟨rfl, rfl⟩
      go_wp2_with fail
      refine (majority_any S.a S.b S.c _).mono ?_
      rintro e w1 ⟨rfl, rfl⟩
      go_wp2_with (refine wpList_store_row rfl 101 (.tmp 4) (.tmp 80) rfl (w.heap.size + 1 + 1) (arr (round S (kW k) (gW ws k)).ws) rfl rfl 101 _ (H2r.out.drewN nq) cells8 rfl (arr_one _) ?_)
      simp only [Exit.jump]
      have e63 : rounds ws 64 s = round S (kW k) (gW ws k) := by rw [← HK.out, HS.out]; rfl
      have hB := Lib.hid (show Below w.heap.size w (wr.drewN nq) from by rw [HW.out]; exact below_drewN (below_drewN H3.out n) nq)
      exact ret_agg rfl (w.heap.size + 1 + 1) _ _ _ rfl ((H2r.out.drewN nq).row _) rfl Tryz.underlying101 rfl cells8 ⟨by rw [e63], below_setRow hB.out (by omega) _⟩

end Go.Proofs.YtnkkckmejjcfkaaGreatDoor.Sp

/- Package sha: one block, and many. -/
namespace Go.Proofs.YtnkkckmejjcfkaaGreatDoor.Sp
open Go Go.RowKit

attribute [local go_sem] add_U addm_U

/-- What holds of each world while a region makes blocks beside an array of eight words that lies at block B. -/
@[reducible] def Eight (B : Nat) (s : St) (n : Nat) (wa w' : World) : Prop := w'.cell? ⟨B, 0, none⟩ = some (.int .u32 (U s.a)) ∧ w'.cell? ⟨B, 1, none⟩ = some (.int .u32 (U s.b)) ∧ w'.cell? ⟨B, 2, none⟩ = some (.int .u32 (U s.c)) ∧ w'.cell? ⟨B, 3, none⟩ = some (.int .u32 (U s.d)) ∧ w'.cell? ⟨B, 4, none⟩ = some (.int .u32 (U s.e)) ∧ w'.cell? ⟨B, 5, none⟩ = some (.int .u32 (U s.f)) ∧ w'.cell? ⟨B, 6, none⟩ = some (.int .u32 (U s.g)) ∧ w'.cell? ⟨B, 7, none⟩ = some (.int .u32 (U s.h)) ∧ Hid (Below n wa w')
section
variable {B : Nat} {s : St} {n : Nat} {wa w0 w1 : World}
theorem Eight.mk (hb : Blk wa B 101 (arr s.ws)) (hn : B < n) (h : Below n wa w1) : Eight B s n wa w1 :=
  have e := (hb.below h hn).cell
  ⟨e 0, e 1, e 2, e 3, e 4, e 5, e 6, e 7, h⟩
theorem Eight.call (hb : Hid (Blk wa B 101 (arr s.ws))) (hn : B < n) (hz : n ≤ wa.heap.size) (h : Eight B s n wa w0) (h1 : Below w0.heap.size w0 w1) : Eight B s n wa w1 :=
  have h0 : Below n wa w0 := h.2.2.2.2.2.2.2.2
  Eight.mk hb hn (h0.trans (h1.mono (Nat.le_trans hz h0.size)))
theorem Eight.alloc (hb : Hid (Blk wa B 101 (arr s.ws))) (hn : B < n) (hz : n ≤ wa.heap.size) (h : Eight B s n wa w0) (o : Obj) : Eight B s n wa (w0.alloc o) :=
  have h0 : Below n wa w0 := h.2.2.2.2.2.2.2.2
  Eight.mk hb hn (h0.alloc (Nat.le_trans hz h0.size) o)
theorem Eight.drew (hb : Hid (Blk wa B 101 (arr s.ws))) (hn : B < n) : Eight B s n wa wa.drew :=
  Eight.mk hb hn (Below.refl n wa).drew
theorem Eight.setc (hb : Hid (Blk wa B 101 (arr s.ws))) (hn : B < n) (h : Eight B s n wa w0) {p : Addr} (hp : n ≤ p.block) (u : Value) : Eight B s n wa (w0.setCell p u) :=
  have h0 : Below n wa w0 := h.2.2.2.2.2.2.2.2
  Eight.mk hb hn (h0.setCell hp u)
theorem Eight.big (hz : n ≤ wa.heap.size) (h : Eight B s n wa w0) : n ≤ w0.heap.size :=
  have h0 : Below n wa w0 := h.2.2.2.2.2.2.2.2
  Nat.le_trans hz h0.size
theorem Eight.last (h : Eight B s n wa w0) : Hid (Below n wa w0) := h.2.2.2.2.2.2.2.2
theorem bcell {W w1 : World} (hb : Below W.heap.size W w1) : (∀ b o, b < W.heap.size → w1.cell? ⟨b, o, none⟩ = W.cell? ⟨b, o, none⟩) ∧ (∀ b o, b < W.heap.size → w1.frozen? ⟨b, o, none⟩ = W.frozen? ⟨b, o, none⟩) :=
  ⟨fun b o h => hb.cell (p := ⟨b, o, none⟩) h, fun b o h => hb.frozen (p := ⟨b, o, none⟩) h⟩
theorem Eight.first (hb : Hid (Blk wa B 101 (arr s.ws))) (hn : B < n) (hz : n ≤ wa.heap.size) (o : Obj) : Eight B s n wa (wa.alloc o).drew :=
  Eight.mk hb hn ((Below.refl n wa).alloc hz o).drew
theorem Eight.tab (hT : Hid (Tab wa)) (hn : 3 < n) (h : Eight B s n wa w0) : Tab w0 :=
  have h0 : Below n wa w0 := h.2.2.2.2.2.2.2.2
  Tab.below hT h0 hn
end

/-- Eight words, cell by cell. -/
def At8 (w : World) (X : Nat) (R : St) : Prop := w.cell? ⟨X, 0, none⟩ = some (.int .u32 (U R.a)) ∧ w.cell? ⟨X, 1, none⟩ = some (.int .u32 (U R.b)) ∧ w.cell? ⟨X, 2, none⟩ = some (.int .u32 (U R.c)) ∧ w.cell? ⟨X, 3, none⟩ = some (.int .u32 (U R.d)) ∧ w.cell? ⟨X, 4, none⟩ = some (.int .u32 (U R.e)) ∧ w.cell? ⟨X, 5, none⟩ = some (.int .u32 (U R.f)) ∧ w.cell? ⟨X, 6, none⟩ = some (.int .u32 (U R.g)) ∧ w.cell? ⟨X, 7, none⟩ = some (.int .u32 (U R.h))
theorem At8.get {w : World} {X : Nat} {R : St} (h : At8 w X R) (k : Nat) (hk : k < 8) : w.cell? ⟨X, k, none⟩ = some (.int .u32 (U (gW R.ws k))) := by
  obtain ⟨h0, h1, h2, h3, h4, h5, h6, h7⟩ := h
  match k, hk with
  | 0, _ => exact h0
  | 1, _ => exact h1
  | 2, _ => exact h2
  | 3, _ => exact h3
  | 4, _ => exact h4
  | 5, _ => exact h5
  | 6, _ => exact h6
  | 7, _ => exact h7

theorem At8.far {w : World} {X : Nat} {R : St} (h : At8 w X R) {p : Addr} (hp : X ≠ p.block) (u : Value) : At8 (w.setCell p u) X R := by
  have e : ∀ i, (w.setCell p u).cell? ⟨X, i, none⟩ = w.cell? ⟨X, i, none⟩ := fun i => World.cell?_of_block (Below.heap_setCell w p u X hp)
  obtain ⟨h0, h1, h2, h3, h4, h5, h6, h7⟩ := h
  exact ⟨(e 0).trans h0, (e 1).trans h1, (e 2).trans h2, (e 3).trans h3, (e 4).trans h4, (e 5).trans h5, (e 6).trans h6, (e 7).trans h7⟩

/-- The first k words of a state with those of another one added. -/
def addP (s R : St) (k : Nat) : List W := (List.range 8).map fun i => if i < k then gW s.ws i + gW R.ws i else gW s.ws i
theorem addP_length (s R : St) (k : Nat) : (addP s R k).length = 8 := by simp [addP]
theorem addP_get (s R : St) (k : Nat) (hk : k < 8) : gW (addP s R k) k = gW s.ws k := by
  match k, hk with
  | 0, _ => rfl
  | 1, _ => rfl
  | 2, _ => rfl
  | 3, _ => rfl
  | 4, _ => rfl
  | 5, _ => rfl
  | 6, _ => rfl
  | 7, _ => rfl
theorem addP_set (s R : St) (k : Nat) (hk : k < 8) : (arr (addP s R k)).setIfInBounds k (.int .u32 (U (gW s.ws k + gW R.ws k))) = arr (addP s R (k + 1)) := by
  match k, hk with
  | 0, _ => rfl
  | 1, _ => rfl
  | 2, _ => rfl
  | 3, _ => rfl
  | 4, _ => rfl
  | 5, _ => rfl
  | 6, _ => rfl
  | 7, _ => rfl
theorem addP_all (s R : St) : addP s R 8 = (s.add R).ws := rfl

theorem mix_lit (s : St) (ws : List W) (hws : ws.length = 64) (w : World) (hT : Tab w) :
    Calls Tryz.prog 94 #[.agg (arr s.ws), .agg (arr ws)] w fun e w' => e = .returned (.agg #[.int .u32 (U (rounds ws 64 s).a), .int .u32 (U (rounds ws 64 s).b), .int .u32 (U (rounds ws 64 s).c), .int .u32 (U (rounds ws 64 s).d), .int .u32 (U (rounds ws 64 s).e), .int .u32 (U (rounds ws 64 s).f), .int .u32 (U (rounds ws 64 s).g), .int .u32 (U (rounds ws 64 s).h)]) ∧ Below w.heap.size w w' :=
  mix_any s ws hws w hT

set_option maxHeartbeats 2000000 in
set_option maxRecDepth 100000 in
theorem compress_any (s : St) (b : ByteArray) (hb : b.size = 64) (w : World) (hT : Tab w) :
    Calls Tryz.prog 86 #[.agg (arr s.ws), .string b] w fun e w' => e = .returned (.agg (arr (compress s b.data.toList).ws)) ∧ Below w.heap.size w w' := by
  have HL := Lib.hid hb
  clear hb
  have HT := Lib.hid hT
  clear hT
  go_enter Tryz.func86, Tryz.ntmps86
  go_upto_region 1 with fail
  have hb0 : Blk ((w.alloc (.cells (arr s.ws) 101)).alloc (.cells #[Value.int IntKind.u32 0, Value.int IntKind.u32 0, Value.int IntKind.u32 0, Value.int IntKind.u32 0, Value.int IntKind.u32 0, Value.int IntKind.u32 0, Value.int IntKind.u32 0, Value.int IntKind.u32 0] 101)) w.heap.size 101 (arr s.ws) := (Blk.new w _ _).alloc _
  have hb1 : Blk ((w.alloc (.cells (arr s.ws) 101)).alloc (.cells #[Value.int IntKind.u32 0, Value.int IntKind.u32 0, Value.int IntKind.u32 0, Value.int IntKind.u32 0, Value.int IntKind.u32 0, Value.int IntKind.u32 0, Value.int IntKind.u32 0, Value.int IntKind.u32 0] 101)) (w.heap.size + 1) 101 (part [] 8) := by rw [gap8]; exact heap_alloc2_new _ _ _
  have hbel : Below w.heap.size w ((w.alloc (.cells (arr s.ws) 101)).alloc (.cells #[Value.int IntKind.u32 0, Value.int IntKind.u32 0, Value.int IntKind.u32 0, Value.int IntKind.u32 0, Value.int IntKind.u32 0, Value.int IntKind.u32 0, Value.int IntKind.u32 0, Value.int IntKind.u32 0] 101)) := ((Below.refl _ _).alloc (Nat.le_refl _) _).alloc (by simp) _
  generalize (w.alloc (.cells (arr s.ws) 101)).alloc (.cells #[Value.int IntKind.u32 0, Value.int IntKind.u32 0, Value.int IntKind.u32 0, Value.int IntKind.u32 0, Value.int IntKind.u32 0, Value.int IntKind.u32 0, Value.int IntKind.u32 0, Value.int IntKind.u32 0] 101) = wa at *
  have HTa := Lib.hid (HT.out.below hbel HT.out.lt)
  have H0 := Lib.hid hb0
  have H1 := Lib.hid hb1
  have H3 := Lib.hid hbel
  clear hb0 hb1 hbel
  have e0 : wa.cell? ⟨w.heap.size, 0, none⟩ = some (.int .u32 (U s.a)) := H0.out.cell 0
  have e1 : wa.cell? ⟨w.heap.size, 1, none⟩ = some (.int .u32 (U s.b)) := H0.out.cell 1
  have e2 : wa.cell? ⟨w.heap.size, 2, none⟩ = some (.int .u32 (U s.c)) := H0.out.cell 2
  have e3 : wa.cell? ⟨w.heap.size, 3, none⟩ = some (.int .u32 (U s.d)) := H0.out.cell 3
  have e4 : wa.cell? ⟨w.heap.size, 4, none⟩ = some (.int .u32 (U s.e)) := H0.out.cell 4
  have e5 : wa.cell? ⟨w.heap.size, 5, none⟩ = some (.int .u32 (U s.f)) := H0.out.cell 5
  have e6 : wa.cell? ⟨w.heap.size, 6, none⟩ = some (.int .u32 (U s.g)) := H0.out.cell 6
  have e7 : wa.cell? ⟨w.heap.size, 7, none⟩ = some (.int .u32 (U s.h)) := H0.out.cell 7
  have hz : w.heap.size + 1 + 1 ≤ wa.heap.size := H1.out.lt
  have hg : 3 < w.heap.size + 1 + 1 := by have := HT.out.lt; omega
  go_cut [5] (fun v wc => ∃ X : Nat, v = .pointer (some ⟨X, 0, none⟩) ∧ w.heap.size + 1 + 1 ≤ X ∧ At8 wc X (rounds (sched b.data.toList 48) 64 s) ∧ Hid (Below (w.heap.size + 1 + 1) wa wc))
  case first =>
    go_region_held3 (fun w' => w'.cell? ⟨w.heap.size, 0, none⟩ = some (.int .u32 (U s.a)) ∧ w'.cell? ⟨w.heap.size, 1, none⟩ = some (.int .u32 (U s.b)) ∧ w'.cell? ⟨w.heap.size, 2, none⟩ = some (.int .u32 (U s.c)) ∧ w'.cell? ⟨w.heap.size, 3, none⟩ = some (.int .u32 (U s.d)) ∧ w'.cell? ⟨w.heap.size, 4, none⟩ = some (.int .u32 (U s.e)) ∧ w'.cell? ⟨w.heap.size, 5, none⟩ = some (.int .u32 (U s.f)) ∧ w'.cell? ⟨w.heap.size, 6, none⟩ = some (.int .u32 (U s.g)) ∧ w'.cell? ⟨w.heap.size, 7, none⟩ = some (.int .u32 (U s.h)) ∧ Hid (Below (w.heap.size + 1 + 1) wa w')) ((first | (with_reducible exact Eight.drew H0 (by omega)) | (with_reducible exact Eight.first H0 (by omega) hz _) | (with_reducible exact Hid.out (by assumption)) | (with_reducible assumption) | (with_reducible exact Eight.alloc H0 (by omega) hz (by assumption) _) | (with_reducible exact Eight.alloc H0 (by omega) hz (Hid.out (by assumption)) _) | ((repeat (with_reducible refine Eight.setc H0 (by omega) ?_ (by first | exact hz | exact Eight.big hz (by assumption) | exact Eight.big hz (Hid.out (by assumption))) _)); first | (with_reducible exact Hid.out (by assumption)) | (with_reducible assumption)))) (first
      | (go_at_call 95; refine (schedule_any b _ HL.out).mono ?_; rintro e w1 ⟨rfl, hb1⟩; have HS1 := Lib.hid (Eight.call H0 (by omega) hz (by assumption) hb1); obtain ⟨hc, hf⟩ := bcell hb1; (try (have hz1 : wa.heap.size < w1.heap.size := by (have hq := hb1.size; simp at hq; omega))); clear hb1)
      | (go_at_call 94; refine (mix_lit s (sched b.data.toList 48) (sched_length _ _) _ (Eight.tab HTa hg (by assumption))).mono ?_; rintro e w1 ⟨rfl, hb1⟩; have HS1 := Lib.hid (Eight.call H0 (by omega) hz (by assumption) hb1); obtain ⟨hc, hf⟩ := bcell hb1; (try (have hz1 : wa.heap.size < w1.heap.size := by (have hq := hb1.size; simp at hq; omega))); clear hb1))
    all_goals
      go_wp2_with fail
      go_meet
      refine ⟨_, rfl, ?_, ?_, ?_⟩
      · first | (with_reducible exact hz) | (with_reducible exact Eight.big hz (by assumption)) | (with_reducible exact Eight.big hz (Hid.out (by assumption)))
      · unfold At8
        go_simp
      · first | (with_reducible exact Eight.last (by assumption)) | (with_reducible exact Eight.last (Hid.out (by assumption)))
  case rest =>
    clear e0 e1 e2 e3 e4 e5 e6 e7
    obtain ⟨X, rfl, hX, hat, hbw⟩ := hcut
    obtain ⟨R, eR⟩ : ∃ R, R = rounds (sched b.data.toList 48) 64 s := ⟨_, rfl⟩
    rw [← eR] at hat
    have ER := Lib.hid eR
    have HAT := Lib.hid hat
    have H0c := Lib.hid (H0.out.below hbw.out (by omega))
    have H1c := Lib.hid (H1.out.below hbw.out (by omega))
    have H3c := Lib.hid (H3.out.trans (hbw.out.mono (by omega)))
    have hXlt := Lib.hid (block_lt_of_cell hat.1)
    clear hat hbw eR
    go_wp2_with fail
    go_loopw [11] (fun i wr => ∃ k : Nat, k ≤ 8 ∧ i = .int .i64 k ∧ Blk wr w.heap.size 101 (arr (addP s R k)) ∧ At8 wr X R ∧ Blk wr (w.heap.size + 1) 101 (part [] 8) ∧ Below w.heap.size w wr) (fun i _ => 8 - (intOf i).toNat)
    case atStart => exact ⟨0, by omega, rfl, H0c.out, HAT.out, H1c.out, H3c.out⟩
    case round =>
      clear H0c H1c H3c HAT
      obtain ⟨k, hk, rfl, hb0, hat, hb1, hbel⟩ := hrel
      have G0 := Lib.hid hb0
      have G1 := Lib.hid hb1
      have G2 := Lib.hid hat
      have G3 := Lib.hid hbel
      by_cases hlt : k < 8
      · have c0 : wr.cell? ⟨w.heap.size, k, none⟩ = some (.int .u32 (U (gW s.ws k))) := by rw [hb0.cell, arr_get _ _ (by rw [addP_length]; exact hlt), addP_get s R k hlt]
        have c1 : wr.cell? ⟨X, k, none⟩ = some (.int .u32 (U (gW R.ws k))) := hat.get k hlt
        have hfro := hb0.frozen k
        have hki : (k : Int) < 8 := by omega
        clear hb0 hb1 hat hbel
        go_wp2_with fail
        go_still_tail 8, (by kernel_rfl)
        go_wp2_with fail
        go_roundw
        case rel =>
          refine ⟨k + 1, by omega, by go_num, ?_, ?_, ?_, ?_⟩
          · have h2 := (G0.out.drew).set_ k (.int .u32 (U (gW s.ws k + gW R.ws k)))
            rw [addP_set s R k hlt] at h2
            exact h2
          · exact At8.far (p := ⟨w.heap.size, k, none⟩) G2.out (by simp; omega) _
          · exact (G1.out.drew).far (by simp) _
          · exact (G3.out.drew).setCell (by simp) _
        case measure => simp [intOf]; omega
      · obtain rfl : k = 8 := by omega
        clear hb0 hb1 hat hbel
        rw [addP_all] at G0
        go_wp2_with (first
          | (refine wpList_load_row rfl 101 (.tmp 2) rfl _ rfl 101 _ (0, 0) _ G0.out Tryz.underlying101 rfl cells8 ?_)
          | (refine wpList_store_row rfl 101 (.tmp 4) (.tmp 23) rfl (w.heap.size + 1) (arr (s.add R).ws) rfl rfl 101 _ G1.out cells8 rfl (arr_one _) ?_))
        exact ret_agg rfl (w.heap.size + 1) _ _ _ rfl (G1.out.row _) rfl Tryz.underlying101 rfl cells8 ⟨by unfold compress; rw [← ER.out], below_setRow G3.out (by omega) _⟩

end Go.Proofs.YtnkkckmejjcfkaaGreatDoor.Sp

/- Package sha: a text whose blocks are absorbed one by one. -/
namespace Go.Proofs.YtnkkckmejjcfkaaGreatDoor.Sp
open Go Go.RowKit

theorem tk (t : ByteArray) : (t.extract 0 64).data.toList = t.data.toList.take 64 := by rw [Lib.extract_data]; simp
theorem dr (t : ByteArray) : (t.extract 64 t.size).data.toList = t.data.toList.drop 64 := Lib.extract_to_end t 64
theorem size_tk (t : ByteArray) (h : 64 ≤ t.size) : (t.extract 0 64).size = 64 := by simp; omega
theorem size_dr (t : ByteArray) : (t.extract 64 t.size).size = t.size - 64 := by simp
theorem Blk.far_row {w : World} {g g' : Nat} {t : TypeId} {cs : Array Value} (h : Blk w g t cs) (hg : g ≠ g') (cs' : Array Value) : Blk (w.setRow g' cs') g t cs := by
  unfold Blk at h ⊢
  simp only [World.setRow, Array.getElem?_modify]; rw [if_neg (by omega)]; exact h
theorem absorb_step (S : St) (t : ByteArray) (h : 64 ≤ t.size) :
    absorb ((t.extract 64 t.size).size / 64) (compress S (t.extract 0 64).data.toList) (t.extract 64 t.size).data.toList = absorb (t.size / 64) S t.data.toList := by
  rw [tk, dr, size_dr, show t.size / 64 = (t.size - 64) / 64 + 1 by omega]; rfl

set_option maxHeartbeats 2000000 in
set_option maxRecDepth 100000 in
theorem absorb_any (s : St) (b : ByteArray) (_hb : b.size ≤ 9223372036854775807) (w : World) (hT : Tab w) :
    Calls Tryz.prog 75 #[.agg (arr s.ws), .string b] w fun e w' => e = .returned (.agg (arr (absorb (b.size / 64) s b.data.toList).ws)) ∧ Below w.heap.size w w' := by
  have HT := Lib.hid hT
  clear hT
  go_enter Tryz.func75, Tryz.ntmps75
  go_wp2_with fail
  go_loopw [1] (fun v wr => ∃ (S : St) (t : ByteArray), v = .string t ∧ t.size ≤ b.size ∧ absorb (t.size / 64) S t.data.toList = absorb (b.size / 64) s b.data.toList ∧ Blk wr w.heap.size 101 (arr S.ws) ∧ Blk wr (w.heap.size + 1) 101 (part [] 8) ∧ Below w.heap.size w wr)
    (fun v _ => match v with | .string t => t.size | _ => 0)
  case atStart => exact ⟨s, b, rfl, Nat.le_refl _, rfl, (Blk.new w _ _).alloc _, by rw [gap8]; exact heap_alloc2_new _ _ _, ((Below.refl _ _).alloc (Nat.le_refl _) _).alloc (by simp) _⟩
  case round =>
    obtain ⟨S, t, rfl, ht, habs, hb0, hb1, hbel⟩ := hrel
    have HA := Lib.hid habs
    have G0 := Lib.hid hb0
    have G1 := Lib.hid hb1
    have G3 := Lib.hid hbel
    by_cases hlt : 64 ≤ t.size
    · have e0 : wr.cell? ⟨w.heap.size, 0, none⟩ = some (.int .u32 (U S.a)) := G0.out.cell 0
      have e1 : wr.cell? ⟨w.heap.size, 1, none⟩ = some (.int .u32 (U S.b)) := G0.out.cell 1
      have e2 : wr.cell? ⟨w.heap.size, 2, none⟩ = some (.int .u32 (U S.c)) := G0.out.cell 2
      have e3 : wr.cell? ⟨w.heap.size, 3, none⟩ = some (.int .u32 (U S.d)) := G0.out.cell 3
      have e4 : wr.cell? ⟨w.heap.size, 4, none⟩ = some (.int .u32 (U S.e)) := G0.out.cell 4
      have e5 : wr.cell? ⟨w.heap.size, 5, none⟩ = some (.int .u32 (U S.f)) := G0.out.cell 5
      have e6 : wr.cell? ⟨w.heap.size, 6, none⟩ = some (.int .u32 (U S.g)) := G0.out.cell 6
      have e7 : wr.cell? ⟨w.heap.size, 7, none⟩ = some (.int .u32 (U S.h)) := G0.out.cell 7
      clear habs hb0 hb1 hbel
      have hti : (64 : Int) ≤ (t.size : Int) := by omega
      go_wp2_with fail
      go_still_tail 3, (by kernel_rfl)
      clear e0 e1 e2 e3 e4 e5 e6 e7
      go_wp2_with fail
      obtain ⟨S1, eS1⟩ : ∃ S1, S1 = compress S (t.extract 0 64).data.toList := ⟨_, rfl⟩
      have ES := Lib.hid eS1
      have hlt0 := G0.out.lt
      have hlt1 := G1.out.lt
      have HTr := Lib.hid (show Tab wr.drew from HT.out.below G3.out.drew HT.out.lt)
      refine (compress_any S (t.extract 0 64) (size_tk t hlt) wr.drew HTr.out).mono ?_
      rintro e w1 ⟨rfl, hbc⟩
      rw [← eS1]
      clear eS1
      have K0 := Lib.hid ((G0.out.drew).below hbc hlt0)
      have K1 := Lib.hid ((G1.out.drew).below hbc hlt1)
      have K3 := Lib.hid (G3.out.drew.trans (hbc.mono (by have := G3.out.size; exact this)))
      clear hbc
      go_wp2_with (refine wpList_store_row rfl 101 (.tmp 2) (.tmp 11) rfl w.heap.size (arr S1.ws) rfl rfl 101 _ K0.out cells8 rfl (arr_one _) ?_)
      go_roundw
      case rel =>
        refine ⟨S1, t.extract 64 t.size, rfl, by rw [size_dr]; omega, ?_, K0.out.row _, ?_, below_setRow K3.out (Nat.le_refl _) _⟩
        · rw [ES.out, absorb_step S t hlt]; exact HA.out
        · exact Blk.far_row K1.out (by omega) _
      case measure => simp; omega
    · clear habs hb0 hb1 hbel
      have hti : (t.size : Int) < 64 := by omega
      go_wp2_with (first
          | (refine wpList_load_row rfl 101 (.tmp 2) rfl _ rfl 101 _ (0, 0) _ G0.out Tryz.underlying101 rfl cells8 ?_)
          | (refine wpList_store_row rfl 101 (.tmp 4) (.tmp 14) rfl (w.heap.size + 1) (arr S.ws) rfl rfl 101 _ G1.out cells8 rfl (arr_one _) ?_))
      have e0 : absorb (t.size / 64) S t.data.toList = S := by rw [show t.size / 64 = 0 by omega]; rfl
      exact ret_agg rfl (w.heap.size + 1) _ _ _ rfl (G1.out.row _) rfl Tryz.underlying101 rfl cells8 ⟨by rw [← HA.out, e0], below_setRow G3.out (by omega) _⟩

end Go.Proofs.YtnkkckmejjcfkaaGreatDoor.Sp
