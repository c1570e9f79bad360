/- Package sha: the rounds, each of which jumps back to the next. -/
import Derived.Test.YtnbaoihamjdjdaaGreatDoorShaPa
import Derived.WalkMore
import Derived.ScopeJumps
import Derived.Deep.RegionWith
import Derived.Deep.RegionHeld3
import Derived.StillTailTactics
import Derived.Deep.DeepCutAuto
import Derived.WalkSpells
import Derived.Lib.Strings
import Derived.Lib.IndexBytes
import Derived.Lib.AppendStr
import Derived.Room.AppendFits
import Derived.Deep.DeepAppendRoom
namespace Go.Proofs.YtnbaoihamjdjdaaGreatDoor.Sp
open Go Go.RowKit

attribute [local go_sem] add_U addm_U

/-- The table of constants, as it lies in memory. -/
def Tab (w : World) : Prop := ∀ i, i < 64 → w.cell? ⟨3, i, none⟩ = some (.int .u32 (U (kW i)))
theorem Tab.lt {w : World} (h : Tab w) : 3 < w.heap.size := block_lt_of_cell (h 0 (by omega))
theorem Tab.below {w w' : World} {B : Nat} (h : Tab w) (hb : Below B w w') (hB : 3 < B) : Tab w' := fun i hi => (hb.cell (p := ⟨3, i, none⟩) hB).trans (h i hi)

theorem heap_alloc3_new (w : World) (A B C : Obj) : (((w.alloc A).alloc B).alloc C).heap[w.heap.size + 1 + 1]? = some C := by
  have h := heap_alloc_new ((w.alloc A).alloc B) C
  have e : ((w.alloc A).alloc B).heap.size = w.heap.size + 1 + 1 := by simp
  rw [e] at h; exact h

/-- What holds at each jump back: k rounds are done. -/
def MixJ (B : Nat) (wa : World) (s : St) (ws : List W) (a' : Act) (w' : World) : Prop :=
  ∃ (k n : Nat) (S : St) (u : Nat → Value), k < 64 ∧ S = rounds ws k s ∧ w' = wa.drewN n ∧ a' = { tmps := #[.agg (arr s.ws), .agg (arr ws), .pointer (some ⟨B, 0, none⟩), .pointer (some ⟨B + 1, 0, none⟩), .pointer (some ⟨B + 1 + 1, 0, none⟩), .int .u32 (U S.a), .int .u32 (U S.b), .int .u32 (U S.c), .int .u32 (U S.d), .int .u32 (U S.e), .int .u32 (U S.f), .int .u32 (U S.g), .int .u32 (U S.h), .int .i64 (k : Int), u 14, u 15, u 16, u 17, u 18, u 19, u 20, u 21, u 22, u 23, u 24, u 25, u 26, u 27, u 28, u 29, u 30, u 31, u 32, u 33, u 34, u 35, u 36, u 37, u 38, u 39, u 40, u 41, u 42, u 43, u 44, u 45, u 46, u 47, u 48, u 49, u 50, u 51, u 52, u 53, u 54, u 55, u 56, u 57, u 58, u 59, u 60, u 61, u 62, u 63, u 64, u 65, u 66, u 67, u 68, u 69, u 70, u 71, undef, undef, undef, undef, undef, undef, undef, undef, undef], defers := [] }
theorem MixJ.mk {B : Nat} {wa : World} {s : St} {ws : List W} {a' : Act} {w' : World} (k n : Nat) (S : St) (hk : k < 64) (hS : S = rounds ws k s) (hw : w' = wa.drewN n) (hd : a'.defers = [])
    (ha : a'.tmps = #[.agg (arr s.ws), .agg (arr ws), .pointer (some ⟨B, 0, none⟩), .pointer (some ⟨B + 1, 0, none⟩), .pointer (some ⟨B + 1 + 1, 0, none⟩), .int .u32 (U S.a), .int .u32 (U S.b), .int .u32 (U S.c), .int .u32 (U S.d), .int .u32 (U S.e), .int .u32 (U S.f), .int .u32 (U S.g), .int .u32 (U S.h), .int .i64 (k : Int), a'.tmps.getD 14 undef, a'.tmps.getD 15 undef, a'.tmps.getD 16 undef, a'.tmps.getD 17 undef, a'.tmps.getD 18 undef, a'.tmps.getD 19 undef, a'.tmps.getD 20 undef, a'.tmps.getD 21 undef, a'.tmps.getD 22 undef, a'.tmps.getD 23 undef, a'.tmps.getD 24 undef, a'.tmps.getD 25 undef, a'.tmps.getD 26 undef, a'.tmps.getD 27 undef, a'.tmps.getD 28 undef, a'.tmps.getD 29 undef, a'.tmps.getD 30 undef, a'.tmps.getD 31 undef, a'.tmps.getD 32 undef, a'.tmps.getD 33 undef, a'.tmps.getD 34 undef, a'.tmps.getD 35 undef, a'.tmps.getD 36 undef, a'.tmps.getD 37 undef, a'.tmps.getD 38 undef, a'.tmps.getD 39 undef, a'.tmps.getD 40 undef, a'.tmps.getD 41 undef, a'.tmps.getD 42 undef, a'.tmps.getD 43 undef, a'.tmps.getD 44 undef, a'.tmps.getD 45 undef, a'.tmps.getD 46 undef, a'.tmps.getD 47 undef, a'.tmps.getD 48 undef, a'.tmps.getD 49 undef, a'.tmps.getD 50 undef, a'.tmps.getD 51 undef, a'.tmps.getD 52 undef, a'.tmps.getD 53 undef, a'.tmps.getD 54 undef, a'.tmps.getD 55 undef, a'.tmps.getD 56 undef, a'.tmps.getD 57 undef, a'.tmps.getD 58 undef, a'.tmps.getD 59 undef, a'.tmps.getD 60 undef, a'.tmps.getD 61 undef, a'.tmps.getD 62 undef, a'.tmps.getD 63 undef, a'.tmps.getD 64 undef, a'.tmps.getD 65 undef, a'.tmps.getD 66 undef, a'.tmps.getD 67 undef, a'.tmps.getD 68 undef, a'.tmps.getD 69 undef, a'.tmps.getD 70 undef, a'.tmps.getD 71 undef, undef, undef, undef, undef, undef, undef, undef, undef, undef]) : MixJ B wa s ws a' w' :=
  ⟨k, n, S, fun i => a'.tmps.getD i undef, hk, hS, hw, by cases a'; simp only at hd ha ⊢; subst hd; congr 1⟩

set_option maxHeartbeats 2000000 in
set_option maxRecDepth 100000 in
theorem mix_any (s : St) (ws : List W) (hws : ws.length = 64) (w : World) (hT : Tab w) :
    Calls Tryz.prog 105 #[.agg (arr s.ws), .agg (arr ws)] w fun e w' => e = .returned (.agg (arr (rounds ws 64 s).ws)) ∧ Below w.heap.size w w' := by
  have HL := Lib.hid hws
  clear hws
  have HT := Lib.hid hT
  clear hT
  go_enter Tryz.func105, Tryz.ntmps105
  go_wp2_with fail
  have hb0 : Blk (((w.alloc (.cells (arr s.ws) 114)).alloc (.cells (arr ws) 123)).alloc (.cells #[Value.int IntKind.u32 0, Value.int IntKind.u32 0, Value.int IntKind.u32 0, Value.int IntKind.u32 0, Value.int IntKind.u32 0, Value.int IntKind.u32 0, Value.int IntKind.u32 0, Value.int IntKind.u32 0] 114)) w.heap.size 114 (arr s.ws) := ((Blk.new w _ _).alloc _).alloc _
  have hb1 : Blk (((w.alloc (.cells (arr s.ws) 114)).alloc (.cells (arr ws) 123)).alloc (.cells #[Value.int IntKind.u32 0, Value.int IntKind.u32 0, Value.int IntKind.u32 0, Value.int IntKind.u32 0, Value.int IntKind.u32 0, Value.int IntKind.u32 0, Value.int IntKind.u32 0, Value.int IntKind.u32 0] 114)) (w.heap.size + 1) 123 (arr ws) := Blk.alloc (heap_alloc2_new _ _ _) _
  have hb2 : Blk (((w.alloc (.cells (arr s.ws) 114)).alloc (.cells (arr ws) 123)).alloc (.cells #[Value.int IntKind.u32 0, Value.int IntKind.u32 0, Value.int IntKind.u32 0, Value.int IntKind.u32 0, Value.int IntKind.u32 0, Value.int IntKind.u32 0, Value.int IntKind.u32 0, Value.int IntKind.u32 0] 114)) (w.heap.size + 1 + 1) 114 (part [] 8) := by
    rw [gap8]; exact heap_alloc3_new _ _ _ _
  have hbel : Below w.heap.size w (((w.alloc (.cells (arr s.ws) 114)).alloc (.cells (arr ws) 123)).alloc (.cells #[Value.int IntKind.u32 0, Value.int IntKind.u32 0, Value.int IntKind.u32 0, Value.int IntKind.u32 0, Value.int IntKind.u32 0, Value.int IntKind.u32 0, Value.int IntKind.u32 0, Value.int IntKind.u32 0] 114)) := (((Below.refl _ _).alloc (Nat.le_refl _) _).alloc (by simp) _).alloc (by simp; omega) _
  generalize ((w.alloc (.cells (arr s.ws) 114)).alloc (.cells (arr ws) 123)).alloc (.cells #[Value.int IntKind.u32 0, Value.int IntKind.u32 0, Value.int IntKind.u32 0, Value.int IntKind.u32 0, Value.int IntKind.u32 0, Value.int IntKind.u32 0, Value.int IntKind.u32 0, Value.int IntKind.u32 0] 114) = wa at *
  have HTa := Lib.hid (HT.out.below hbel HT.out.lt)
  have H0 := Lib.hid hb0
  have H1 := Lib.hid hb1
  have H2 := Lib.hid hb2
  have H3 := Lib.hid hbel
  clear hb0 hb1 hb2 hbel
  refine wp_scope_jumps 0 (MixJ w.heap.size wa s ws) (fun a' _ => 64 - (intOf (a'.tmps.getD 13 undef)).toNat) rfl ?_ ?_
  · have e0 : wa.cell? ⟨w.heap.size, 0, none⟩ = some (.int .u32 (U s.a)) := H0.out.cell 0
    have e1 : wa.cell? ⟨w.heap.size, 1, none⟩ = some (.int .u32 (U s.b)) := H0.out.cell 1
    have e2 : wa.cell? ⟨w.heap.size, 2, none⟩ = some (.int .u32 (U s.c)) := H0.out.cell 2
    have e3 : wa.cell? ⟨w.heap.size, 3, none⟩ = some (.int .u32 (U s.d)) := H0.out.cell 3
    have e4 : wa.cell? ⟨w.heap.size, 4, none⟩ = some (.int .u32 (U s.e)) := H0.out.cell 4
    have e5 : wa.cell? ⟨w.heap.size, 5, none⟩ = some (.int .u32 (U s.f)) := H0.out.cell 5
    have e6 : wa.cell? ⟨w.heap.size, 6, none⟩ = some (.int .u32 (U s.g)) := H0.out.cell 6
    have e7 : wa.cell? ⟨w.heap.size, 7, none⟩ = some (.int .u32 (U s.h)) := H0.out.cell 7
    go_wp2_with fail
    go_quiet (fail)
    revert nq; intro n1
    go_wp2_with fail
    go_quiet (fail)
    revert nq; intro n2
    go_wp2_with fail
    go_step3
    clear e0 e1 e2 e3 e4 e5 e6 e7
    have HTr := Lib.hid (show Tab ((wa.drewN n1).drewN n2) from HTa.out)
    have H1r := Lib.hid ((H1.out.drewN n1).drewN n2)
    have HW := Lib.hid (show (wa.drewN n1).drewN n2 = wa.drewN (n1 + n2) from World.drewN_drewN _ _ _)
    generalize (wa.drewN n1).drewN n2 = wr at *
    have cK : wr.cell? ⟨3, 0, none⟩ = some (.int .u32 (U (kW 0))) := HTr.out 0 (by omega)
    have cW : wr.cell? ⟨w.heap.size + 1, 0, none⟩ = some (.int .u32 (U (gW ws 0))) := (H1r.out.cell 0).trans (arr_get ws 0 (by rw [HL.out]; omega))
    go_wp2_with fail
    go_quiet ((first | (go_at_call 107; exact quiet_left (bigSigma1_any s.e _)) | (go_at_call 108; exact quiet_left (choose_any s.e s.f s.g _))))
    go_wp2_with fail
    refine (bigSigma0_any s.a _).mono ?_
    rintro e w1 ⟨rfl, rfl⟩
    go_wp2_with fail
    refine (majority_any s.a s.b s.c _).mono ?_
    rintro e w1 ⟨rfl, rfl⟩
    go_wp2_with fail
    go_step3
    exact ⟨rfl, MixJ.mk 1 (n1 + n2 + nq) (rounds ws 1 s) (by omega) rfl (by rw [HW.out, World.drewN_drewN]) rfl rfl⟩
  · rintro a' w' ⟨k, n, S, u, hk, hS, hw, ha⟩
    have HS := Lib.hid hS
    have HW := Lib.hid hw
    clear hS hw
    subst ha
    have HTr := Lib.hid (show Tab w' from fun i hi => by rw [HW.out]; exact HTa.out i hi)
    have H1r := Lib.hid (show Blk w' (w.heap.size + 1) 123 (arr ws) from by rw [HW.out]; exact H1.out.drewN n)
    have H2r := Lib.hid (show Blk w' (w.heap.size + 1 + 1) 114 (part [] 8) from by rw [HW.out]; exact H2.out.drewN n)
    generalize w' = wr at *
    have hki : (k : Int) < 64 := by omega
    have hk0 : (0 : Int) ≤ (k : Int) := by omega
    by_cases hlt : k + 1 < 64
    · have cK : wr.cell? ⟨3, k, none⟩ = some (.int .u32 (U (kW k))) := HTr.out k (by omega)
      have cW : wr.cell? ⟨w.heap.size + 1, k, none⟩ = some (.int .u32 (U (gW ws k))) := (H1r.out.cell k).trans (arr_get ws k (by rw [HL.out]; omega))
      go_wp2_with fail
      go_quiet ((first | (go_at_call 107; exact quiet_left (bigSigma1_any S.e _)) | (go_at_call 108; exact quiet_left (choose_any S.e S.f S.g _))))
      go_wp2_with fail
      refine (bigSigma0_any S.a _).mono ?_
      rintro e w1 ⟨rfl, rfl⟩
      go_wp2_with fail
      refine (majority_any S.a S.b S.c _).mono ?_
      rintro e w1 ⟨rfl, rfl⟩
      go_wp2_with fail
      go_step3
      refine ⟨rfl, MixJ.mk (k + 1) (n + nq) (rounds ws (k + 1) s) hlt rfl (by rw [HW.out, World.drewN_drewN]) rfl ?_, ?_⟩
      · rw [show rounds ws (k + 1) s = round S (kW k) (gW ws k) from by rw [HS.out]; rfl]
        rfl
      · simp [intOf]; omega
    · have HK := Lib.hid (show k + 1 = 64 from by omega)
      have hk1 : (64 : Int) ≤ (k : Int) + 1 := by omega
      have cK : wr.cell? ⟨3, k, none⟩ = some (.int .u32 (U (kW k))) := HTr.out k (by omega)
      have cW : wr.cell? ⟨w.heap.size + 1, k, none⟩ = some (.int .u32 (U (gW ws k))) := (H1r.out.cell k).trans (arr_get ws k (by rw [HL.out]; omega))
      go_wp2_with fail
      go_quiet ((first | (go_at_call 107; exact quiet_left (bigSigma1_any S.e _)) | (go_at_call 108; exact quiet_left (choose_any S.e S.f S.g _))))
      go_wp2_with fail
      refine (bigSigma0_any S.a _).mono ?_
      rintro e w1 ⟨rfl, rfl⟩
      go_wp2_with fail
      refine (majority_any S.a S.b S.c _).mono ?_
      rintro e w1 ⟨rfl, rfl⟩
      go_wp2_with (refine wpList_store_row rfl 114 (.tmp 4) (.tmp 80) rfl (w.heap.size + 1 + 1) (arr (round S (kW k) (gW ws k)).ws) rfl rfl 114 _ (H2r.out.drewN nq) cells8 rfl (arr_one _) ?_)
      simp only [Exit.jump]
      have e63 : rounds ws 64 s = round S (kW k) (gW ws k) := by rw [← HK.out, HS.out]; rfl
      have hB := Lib.hid (show Below w.heap.size w (wr.drewN nq) from by rw [HW.out]; exact below_drewN (below_drewN H3.out n) nq)
      exact ret_agg rfl (w.heap.size + 1 + 1) _ _ _ rfl ((H2r.out.drewN nq).row _) rfl Tryz.underlying114 rfl cells8 ⟨by rw [e63], below_setRow hB.out (by omega) _⟩

end Go.Proofs.YtnbaoihamjdjdaaGreatDoor.Sp

/- Package sha: one block, and many. -/
namespace Go.Proofs.YtnbaoihamjdjdaaGreatDoor.Sp
open Go Go.RowKit

attribute [local go_sem] add_U addm_U

/-- What holds of each world while a region makes blocks beside an array of eight words that lies at block B. -/
@[reducible] def Eight (B : Nat) (s : St) (n : Nat) (wa w' : World) : Prop := w'.cell? ⟨B, 0, none⟩ = some (.int .u32 (U s.a)) ∧ w'.cell? ⟨B, 1, none⟩ = some (.int .u32 (U s.b)) ∧ w'.cell? ⟨B, 2, none⟩ = some (.int .u32 (U s.c)) ∧ w'.cell? ⟨B, 3, none⟩ = some (.int .u32 (U s.d)) ∧ w'.cell? ⟨B, 4, none⟩ = some (.int .u32 (U s.e)) ∧ w'.cell? ⟨B, 5, none⟩ = some (.int .u32 (U s.f)) ∧ w'.cell? ⟨B, 6, none⟩ = some (.int .u32 (U s.g)) ∧ w'.cell? ⟨B, 7, none⟩ = some (.int .u32 (U s.h)) ∧ Hid (Below n wa w')
section
variable {B : Nat} {s : St} {n : Nat} {wa w0 w1 : World}
theorem Eight.mk (hb : Blk wa B 114 (arr s.ws)) (hn : B < n) (h : Below n wa w1) : Eight B s n wa w1 :=
  have e := (hb.below h hn).cell
  ⟨e 0, e 1, e 2, e 3, e 4, e 5, e 6, e 7, h⟩
theorem Eight.call (hb : Hid (Blk wa B 114 (arr s.ws))) (hn : B < n) (hz : n ≤ wa.heap.size) (h : Eight B s n wa w0) (h1 : Below w0.heap.size w0 w1) : Eight B s n wa w1 :=
  have h0 : Below n wa w0 := h.2.2.2.2.2.2.2.2
  Eight.mk hb hn (h0.trans (h1.mono (Nat.le_trans hz h0.size)))
theorem Eight.alloc (hb : Hid (Blk wa B 114 (arr s.ws))) (hn : B < n) (hz : n ≤ wa.heap.size) (h : Eight B s n wa w0) (o : Obj) : Eight B s n wa (w0.alloc o) :=
  have h0 : Below n wa w0 := h.2.2.2.2.2.2.2.2
  Eight.mk hb hn (h0.alloc (Nat.le_trans hz h0.size) o)
theorem Eight.drew (hb : Hid (Blk wa B 114 (arr s.ws))) (hn : B < n) : Eight B s n wa wa.drew :=
  Eight.mk hb hn (Below.refl n wa).drew
theorem Eight.setc (hb : Hid (Blk wa B 114 (arr s.ws))) (hn : B < n) (h : Eight B s n wa w0) {p : Addr} (hp : n ≤ p.block) (u : Value) : Eight B s n wa (w0.setCell p u) :=
  have h0 : Below n wa w0 := h.2.2.2.2.2.2.2.2
  Eight.mk hb hn (h0.setCell hp u)
theorem Eight.big (hz : n ≤ wa.heap.size) (h : Eight B s n wa w0) : n ≤ w0.heap.size :=
  have h0 : Below n wa w0 := h.2.2.2.2.2.2.2.2
  Nat.le_trans hz h0.size
theorem Eight.last (h : Eight B s n wa w0) : Hid (Below n wa w0) := h.2.2.2.2.2.2.2.2
theorem bcell {W w1 : World} (hb : Below W.heap.size W w1) : (∀ b o, b < W.heap.size → w1.cell? ⟨b, o, none⟩ = W.cell? ⟨b, o, none⟩) ∧ (∀ b o, b < W.heap.size → w1.frozen? ⟨b, o, none⟩ = W.frozen? ⟨b, o, none⟩) :=
  ⟨fun b o h => hb.cell (p := ⟨b, o, none⟩) h, fun b o h => hb.frozen (p := ⟨b, o, none⟩) h⟩
theorem Eight.first (hb : Hid (Blk wa B 114 (arr s.ws))) (hn : B < n) (hz : n ≤ wa.heap.size) (o : Obj) : Eight B s n wa (wa.alloc o).drew :=
  Eight.mk hb hn ((Below.refl n wa).alloc hz o).drew
theorem Eight.tab (hT : Hid (Tab wa)) (hn : 3 < n) (h : Eight B s n wa w0) : Tab w0 :=
  have h0 : Below n wa w0 := h.2.2.2.2.2.2.2.2
  Tab.below hT h0 hn
end

/-- Eight words, cell by cell. -/
def At8 (w : World) (X : Nat) (R : St) : Prop := w.cell? ⟨X, 0, none⟩ = some (.int .u32 (U R.a)) ∧ w.cell? ⟨X, 1, none⟩ = some (.int .u32 (U R.b)) ∧ w.cell? ⟨X, 2, none⟩ = some (.int .u32 (U R.c)) ∧ w.cell? ⟨X, 3, none⟩ = some (.int .u32 (U R.d)) ∧ w.cell? ⟨X, 4, none⟩ = some (.int .u32 (U R.e)) ∧ w.cell? ⟨X, 5, none⟩ = some (.int .u32 (U R.f)) ∧ w.cell? ⟨X, 6, none⟩ = some (.int .u32 (U R.g)) ∧ w.cell? ⟨X, 7, none⟩ = some (.int .u32 (U R.h))
theorem At8.get {w : World} {X : Nat} {R : St} (h : At8 w X R) (k : Nat) (hk : k < 8) : w.cell? ⟨X, k, none⟩ = some (.int .u32 (U (gW R.ws k))) := by
  obtain ⟨h0, h1, h2, h3, h4, h5, h6, h7⟩ := h
  match k, hk with
  | 0, _ => exact h0
  | 1, _ => exact h1
  | 2, _ => exact h2
  | 3, _ => exact h3
  | 4, _ => exact h4
  | 5, _ => exact h5
  | 6, _ => exact h6
  | 7, _ => exact h7

theorem At8.far {w : World} {X : Nat} {R : St} (h : At8 w X R) {p : Addr} (hp : X ≠ p.block) (u : Value) : At8 (w.setCell p u) X R := by
  have e : ∀ i, (w.setCell p u).cell? ⟨X, i, none⟩ = w.cell? ⟨X, i, none⟩ := fun i => World.cell?_of_block (Below.heap_setCell w p u X hp)
  obtain ⟨h0, h1, h2, h3, h4, h5, h6, h7⟩ := h
  exact ⟨(e 0).trans h0, (e 1).trans h1, (e 2).trans h2, (e 3).trans h3, (e 4).trans h4, (e 5).trans h5, (e 6).trans h6, (e 7).trans h7⟩

/-- The first k words of a state with those of another one added. -/
def addP (s R : St) (k : Nat) : List W := (List.range 8).map fun i => if i < k then gW s.ws i + gW R.ws i else gW s.ws i
theorem addP_length (s R : St) (k : Nat) : (addP s R k).length = 8 := by simp [addP]
theorem addP_get (s R : St) (k : Nat) (hk : k < 8) : gW (addP s R k) k = gW s.ws k := by
  match k, hk with
  | 0, _ => rfl
  | 1, _ => rfl
  | 2, _ => rfl
  | 3, _ => rfl
  | 4, _ => rfl
  | 5, _ => rfl
  | 6, _ => rfl
  | 7, _ => rfl
theorem addP_set (s R : St) (k : Nat) (hk : k < 8) : (arr (addP s R k)).setIfInBounds k (.int .u32 (U (gW s.ws k + gW R.ws k))) = arr (addP s R (k + 1)) := by
  match k, hk with
  | 0, _ => rfl
  | 1, _ => rfl
  | 2, _ => rfl
  | 3, _ => rfl
  | 4, _ => rfl
  | 5, _ => rfl
  | 6, _ => rfl
  | 7, _ => rfl
theorem addP_all (s R : St) : addP s R 8 = (s.add R).ws := rfl

theorem mix_lit (s : St) (ws : List W) (hws : ws.length = 64) (w : World) (hT : Tab w) :
    Calls Tryz.prog 105 #[.agg (arr s.ws), .agg (arr ws)] w fun e w' => e = .returned (.agg #[.int .u32 (U (rounds ws 64 s).a), .int .u32 (U (rounds ws 64 s).b), .int .u32 (U (rounds ws 64 s).c), .int .u32 (U (rounds ws 64 s).d), .int .u32 (U (rounds ws 64 s).e), .int .u32 (U (rounds ws 64 s).f), .int .u32 (U (rounds ws 64 s).g), .int .u32 (U (rounds ws 64 s).h)]) ∧ Below w.heap.size w w' :=
  mix_any s ws hws w hT

set_option maxHeartbeats 2000000 in
set_option maxRecDepth 100000 in
theorem compress_any (s : St) (b : ByteArray) (hb : b.size = 64) (w : World) (hT : Tab w) :
    Calls Tryz.prog 99 #[.agg (arr s.ws), .string b] w fun e w' => e = .returned (.agg (arr (compress s b.data.toList).ws)) ∧ Below w.heap.size w w' := by
  have HL := Lib.hid hb
  clear hb
  have HT := Lib.hid hT
  clear hT
  go_enter Tryz.func99, Tryz.ntmps99
  go_upto_region 1 with fail
  have hb0 : Blk ((w.alloc (.cells (arr s.ws) 114)).alloc (.cells #[Value.int IntKind.u32 0, Value.int IntKind.u32 0, Value.int IntKind.u32 0, Value.int IntKind.u32 0, Value.int IntKind.u32 0, Value.int IntKind.u32 0, Value.int IntKind.u32 0, Value.int IntKind.u32 0] 114)) w.heap.size 114 (arr s.ws) := (Blk.new w _ _).alloc _
  have hb1 : Blk ((w.alloc (.cells (arr s.ws) 114)).alloc (.cells #[Value.int IntKind.u32 0, Value.int IntKind.u32 0, Value.int IntKind.u32 0, Value.int IntKind.u32 0, Value.int IntKind.u32 0, Value.int IntKind.u32 0, Value.int IntKind.u32 0, Value.int IntKind.u32 0] 114)) (w.heap.size + 1) 114 (part [] 8) := by rw [gap8]; exact heap_alloc2_new _ _ _
  have hbel : Below w.heap.size w ((w.alloc (.cells (arr s.ws) 114)).alloc (.cells #[Value.int IntKind.u32 0, Value.int IntKind.u32 0, Value.int IntKind.u32 0, Value.int IntKind.u32 0, Value.int IntKind.u32 0, Value.int IntKind.u32 0, Value.int IntKind.u32 0, Value.int IntKind.u32 0] 114)) := ((Below.refl _ _).alloc (Nat.le_refl _) _).alloc (by simp) _
  generalize (w.alloc (.cells (arr s.ws) 114)).alloc (.cells #[Value.int IntKind.u32 0, Value.int IntKind.u32 0, Value.int IntKind.u32 0, Value.int IntKind.u32 0, Value.int IntKind.u32 0, Value.int IntKind.u32 0, Value.int IntKind.u32 0, Value.int IntKind.u32 0] 114) = wa at *
  have HTa := Lib.hid (HT.out.below hbel HT.out.lt)
  have H0 := Lib.hid hb0
  have H1 := Lib.hid hb1
  have H3 := Lib.hid hbel
  clear hb0 hb1 hbel
  have e0 : wa.cell? ⟨w.heap.size, 0, none⟩ = some (.int .u32 (U s.a)) := H0.out.cell 0
  have e1 : wa.cell? ⟨w.heap.size, 1, none⟩ = some (.int .u32 (U s.b)) := H0.out.cell 1
  have e2 : wa.cell? ⟨w.heap.size, 2, none⟩ = some (.int .u32 (U s.c)) := H0.out.cell 2
  have e3 : wa.cell? ⟨w.heap.size, 3, none⟩ = some (.int .u32 (U s.d)) := H0.out.cell 3
  have e4 : wa.cell? ⟨w.heap.size, 4, none⟩ = some (.int .u32 (U s.e)) := H0.out.cell 4
  have e5 : wa.cell? ⟨w.heap.size, 5, none⟩ = some (.int .u32 (U s.f)) := H0.out.cell 5
  have e6 : wa.cell? ⟨w.heap.size, 6, none⟩ = some (.int .u32 (U s.g)) := H0.out.cell 6
  have e7 : wa.cell? ⟨w.heap.size, 7, none⟩ = some (.int .u32 (U s.h)) := H0.out.cell 7
  have hz : w.heap.size + 1 + 1 ≤ wa.heap.size := H1.out.lt
  have hg : 3 < w.heap.size + 1 + 1 := by have := HT.out.lt; omega
  go_cut [5] (fun v wc => ∃ X : Nat, v = .pointer (some ⟨X, 0, none⟩) ∧ w.heap.size + 1 + 1 ≤ X ∧ At8 wc X (rounds (sched b.data.toList 48) 64 s) ∧ Hid (Below (w.heap.size + 1 + 1) wa wc))
  case first =>
    go_region_held3 (fun w' => w'.cell? ⟨w.heap.size, 0, none⟩ = some (.int .u32 (U s.a)) ∧ w'.cell? ⟨w.heap.size, 1, none⟩ = some (.int .u32 (U s.b)) ∧ w'.cell? ⟨w.heap.size, 2, none⟩ = some (.int .u32 (U s.c)) ∧ w'.cell? ⟨w.heap.size, 3, none⟩ = some (.int .u32 (U s.d)) ∧ w'.cell? ⟨w.heap.size, 4, none⟩ = some (.int .u32 (U s.e)) ∧ w'.cell? ⟨w.heap.size, 5, none⟩ = some (.int .u32 (U s.f)) ∧ w'.cell? ⟨w.heap.size, 6, none⟩ = some (.int .u32 (U s.g)) ∧ w'.cell? ⟨w.heap.size, 7, none⟩ = some (.int .u32 (U s.h)) ∧ Hid (Below (w.heap.size + 1 + 1) wa w')) ((first | (with_reducible exact Eight.drew H0 (by omega)) | (with_reducible exact Eight.first H0 (by omega) hz _) | (with_reducible exact Hid.out (by assumption)) | (with_reducible assumption) | (with_reducible exact Eight.alloc H0 (by omega) hz (by assumption) _) | (with_reducible exact Eight.alloc H0 (by omega) hz (Hid.out (by assumption)) _) | ((repeat (with_reducible refine Eight.setc H0 (by omega) ?_ (by first | exact hz | exact Eight.big hz (by assumption) | exact Eight.big hz (Hid.out (by assumption))) _)); first | (with_reducible exact Hid.out (by assumption)) | (with_reducible assumption)))) (first
      | (go_at_call 106; refine (schedule_any b _ HL.out).mono ?_; rintro e w1 ⟨rfl, hb1⟩; have HS1 := Lib.hid (Eight.call H0 (by omega) hz (by assumption) hb1); obtain ⟨hc, hf⟩ := bcell hb1; (try (have hz1 : wa.heap.size < w1.heap.size := by (have hq := hb1.size; simp at hq; omega))); clear hb1)
      | (go_at_call 105; refine (mix_lit s (sched b.data.toList 48) (sched_length _ _) _ (Eight.tab HTa hg (by assumption))).mono ?_; rintro e w1 ⟨rfl, hb1⟩; have HS1 := Lib.hid (Eight.call H0 (by omega) hz (by assumption) hb1); obtain ⟨hc, hf⟩ := bcell hb1; (try (have hz1 : wa.heap.size < w1.heap.size := by (have hq := hb1.size; simp at hq; omega))); clear hb1))
    all_goals
      go_wp2_with fail
      go_meet
      refine ⟨_, rfl, ?_, ?_, ?_⟩
      · first | (with_reducible exact hz) | (with_reducible exact Eight.big hz (by assumption)) | (with_reducible exact Eight.big hz (Hid.out (by assumption)))
      · unfold At8
        go_simp
      · first | (with_reducible exact Eight.last (by assumption)) | (with_reducible exact Eight.last (Hid.out (by assumption)))
  case rest =>
    clear e0 e1 e2 e3 e4 e5 e6 e7
    obtain ⟨X, rfl, hX, hat, hbw⟩ := hcut
    obtain ⟨R, eR⟩ : ∃ R, R = rounds (sched b.data.toList 48) 64 s := ⟨_, rfl⟩
    rw [← eR] at hat
    have ER := Lib.hid eR
    have HAT := Lib.hid hat
    have H0c := Lib.hid (H0.out.below hbw.out (by omega))
    have H1c := Lib.hid (H1.out.below hbw.out (by omega))
    have H3c := Lib.hid (H3.out.trans (hbw.out.mono (by omega)))
    have hXlt := Lib.hid (block_lt_of_cell hat.1)
    clear hat hbw eR
    go_wp2_with fail
    go_loopw [11] (fun i wr => ∃ k : Nat, k ≤ 8 ∧ i = .int .i64 k ∧ Blk wr w.heap.size 114 (arr (addP s R k)) ∧ At8 wr X R ∧ Blk wr (w.heap.size + 1) 114 (part [] 8) ∧ Below w.heap.size w wr) (fun i _ => 8 - (intOf i).toNat)
    case atStart => exact ⟨0, by omega, rfl, H0c.out, HAT.out, H1c.out, H3c.out⟩
    case round =>
      clear H0c H1c H3c HAT
      obtain ⟨k, hk, rfl, hb0, hat, hb1, hbel⟩ := hrel
      have G0 := Lib.hid hb0
      have G1 := Lib.hid hb1
      have G2 := Lib.hid hat
      have G3 := Lib.hid hbel
      by_cases hlt : k < 8
      · have c0 : wr.cell? ⟨w.heap.size, k, none⟩ = some (.int .u32 (U (gW s.ws k))) := by rw [hb0.cell, arr_get _ _ (by rw [addP_length]; exact hlt), addP_get s R k hlt]
        have c1 : wr.cell? ⟨X, k, none⟩ = some (.int .u32 (U (gW R.ws k))) := hat.get k hlt
        have hfro := hb0.frozen k
        have hki : (k : Int) < 8 := by omega
        clear hb0 hb1 hat hbel
        go_wp2_with fail
        go_still_tail 8, (by kernel_rfl)
        go_wp2_with fail
        go_roundw
        case rel =>
          refine ⟨k + 1, by omega, by go_num, ?_, ?_, ?_, ?_⟩
          · have h2 := (G0.out.drew).set_ k (.int .u32 (U (gW s.ws k + gW R.ws k)))
            rw [addP_set s R k hlt] at h2
            exact h2
          · exact At8.far (p := ⟨w.heap.size, k, none⟩) G2.out (by simp; omega) _
          · exact (G1.out.drew).far (by simp) _
          · exact (G3.out.drew).setCell (by simp) _
        case measure => simp [intOf]; omega
      · obtain rfl : k = 8 := by omega
        clear hb0 hb1 hat hbel
        rw [addP_all] at G0
        go_wp2_with (first
          | (refine wpList_load_row rfl 114 (.tmp 2) rfl _ rfl 114 _ (0, 0) _ G0.out Tryz.underlying114 rfl cells8 ?_)
          | (refine wpList_store_row rfl 114 (.tmp 4) (.tmp 23) rfl (w.heap.size + 1) (arr (s.add R).ws) rfl rfl 114 _ G1.out cells8 rfl (arr_one _) ?_))
        exact ret_agg rfl (w.heap.size + 1) _ _ _ rfl (G1.out.row _) rfl Tryz.underlying114 rfl cells8 ⟨by unfold compress; rw [← ER.out], below_setRow G3.out (by omega) _⟩

end Go.Proofs.YtnbaoihamjdjdaaGreatDoor.Sp

/- Package sha: a text whose blocks are absorbed one by one. -/
namespace Go.Proofs.YtnbaoihamjdjdaaGreatDoor.Sp
open Go Go.RowKit

theorem tk (t : ByteArray) : (t.extract 0 64).data.toList = t.data.toList.take 64 := by rw [Lib.extract_data]; simp
theorem dr (t : ByteArray) : (t.extract 64 t.size).data.toList = t.data.toList.drop 64 := Lib.extract_to_end t 64
theorem size_tk (t : ByteArray) (h : 64 ≤ t.size) : (t.extract 0 64).size = 64 := by simp; omega
theorem size_dr (t : ByteArray) : (t.extract 64 t.size).size = t.size - 64 := by simp
theorem Blk.far_row {w : World} {g g' : Nat} {t : TypeId} {cs : Array Value} (h : Blk w g t cs) (hg : g ≠ g') (cs' : Array Value) : Blk (w.setRow g' cs') g t cs := by
  unfold Blk at h ⊢
  simp only [World.setRow, Array.getElem?_modify]; rw [if_neg (by omega)]; exact h
theorem absorb_step (S : St) (t : ByteArray) (h : 64 ≤ t.size) :
    absorb ((t.extract 64 t.size).size / 64) (compress S (t.extract 0 64).data.toList) (t.extract 64 t.size).data.toList = absorb (t.size / 64) S t.data.toList := by
  rw [tk, dr, size_dr, show t.size / 64 = (t.size - 64) / 64 + 1 by omega]; rfl

set_option maxHeartbeats 2000000 in
set_option maxRecDepth 100000 in
theorem absorb_any (s : St) (b : ByteArray) (_hb : b.size ≤ 9223372036854775807) (w : World) (hT : Tab w) :
    Calls Tryz.prog 89 #[.agg (arr s.ws), .string b] w fun e w' => e = .returned (.agg (arr (absorb (b.size / 64) s b.data.toList).ws)) ∧ Below w.heap.size w w' := by
  have HT := Lib.hid hT
  clear hT
  go_enter Tryz.func89, Tryz.ntmps89
  go_wp2_with fail
  go_loopw [1] (fun v wr => ∃ (S : St) (t : ByteArray), v = .string t ∧ t.size ≤ b.size ∧ absorb (t.size / 64) S t.data.toList = absorb (b.size / 64) s b.data.toList ∧ Blk wr w.heap.size 114 (arr S.ws) ∧ Blk wr (w.heap.size + 1) 114 (part [] 8) ∧ Below w.heap.size w wr)
    (fun v _ => match v with | .string t => t.size | _ => 0)
  case atStart => exact ⟨s, b, rfl, Nat.le_refl _, rfl, (Blk.new w _ _).alloc _, by rw [gap8]; exact heap_alloc2_new _ _ _, ((Below.refl _ _).alloc (Nat.le_refl _) _).alloc (by simp) _⟩
  case round =>
    obtain ⟨S, t, rfl, ht, habs, hb0, hb1, hbel⟩ := hrel
    have HA := Lib.hid habs
    have G0 := Lib.hid hb0
    have G1 := Lib.hid hb1
    have G3 := Lib.hid hbel
    by_cases hlt : 64 ≤ t.size
    · have e0 : wr.cell? ⟨w.heap.size, 0, none⟩ = some (.int .u32 (U S.a)) := G0.out.cell 0
      have e1 : wr.cell? ⟨w.heap.size, 1, none⟩ = some (.int .u32 (U S.b)) := G0.out.cell 1
      have e2 : wr.cell? ⟨w.heap.size, 2, none⟩ = some (.int .u32 (U S.c)) := G0.out.cell 2
      have e3 : wr.cell? ⟨w.heap.size, 3, none⟩ = some (.int .u32 (U S.d)) := G0.out.cell 3
      have e4 : wr.cell? ⟨w.heap.size, 4, none⟩ = some (.int .u32 (U S.e)) := G0.out.cell 4
      have e5 : wr.cell? ⟨w.heap.size, 5, none⟩ = some (.int .u32 (U S.f)) := G0.out.cell 5
      have e6 : wr.cell? ⟨w.heap.size, 6, none⟩ = some (.int .u32 (U S.g)) := G0.out.cell 6
      have e7 : wr.cell? ⟨w.heap.size, 7, none⟩ = some (.int .u32 (U S.h)) := G0.out.cell 7
      clear habs hb0 hb1 hbel
      have hti : (64 : Int) ≤ (t.size : Int) := by omega
      go_wp2_with fail
      go_still_tail 3, (by kernel_rfl)
      clear e0 e1 e2 e3 e4 e5 e6 e7
      go_wp2_with fail
      obtain ⟨S1, eS1⟩ : ∃ S1, S1 = compress S (t.extract 0 64).data.toList := ⟨_, rfl⟩
      have ES := Lib.hid eS1
      have hlt0 := G0.out.lt
      have hlt1 := G1.out.lt
      have HTr := Lib.hid (show Tab wr.drew from HT.out.below G3.out.drew HT.out.lt)
      refine (compress_any S (t.extract 0 64) (size_tk t hlt) wr.drew HTr.out).mono ?_
      rintro e w1 ⟨rfl, hbc⟩
      rw [← eS1]
      clear eS1
      have K0 := Lib.hid ((G0.out.drew).below hbc hlt0)
      have K1 := Lib.hid ((G1.out.drew).below hbc hlt1)
      have K3 := Lib.hid (G3.out.drew.trans (hbc.mono (by have := G3.out.size; exact this)))
      clear hbc
      go_wp2_with (refine wpList_store_row rfl 114 (.tmp 2) (.tmp 11) rfl w.heap.size (arr S1.ws) rfl rfl 114 _ K0.out cells8 rfl (arr_one _) ?_)
      go_roundw
      case rel =>
        refine ⟨S1, t.extract 64 t.size, rfl, by rw [size_dr]; omega, ?_, K0.out.row _, ?_, below_setRow K3.out (Nat.le_refl _) _⟩
        · rw [ES.out, absorb_step S t hlt]; exact HA.out
        · exact Blk.far_row K1.out (by omega) _
      case measure => simp; omega
    · clear habs hb0 hb1 hbel
      have hti : (t.size : Int) < 64 := by omega
      go_wp2_with (first
          | (refine wpList_load_row rfl 114 (.tmp 2) rfl _ rfl 114 _ (0, 0) _ G0.out Tryz.underlying114 rfl cells8 ?_)
          | (refine wpList_store_row rfl 114 (.tmp 4) (.tmp 14) rfl (w.heap.size + 1) (arr S.ws) rfl rfl 114 _ G1.out cells8 rfl (arr_one _) ?_))
      have e0 : absorb (t.size / 64) S t.data.toList = S := by rw [show t.size / 64 = 0 by omega]; rfl
      exact ret_agg rfl (w.heap.size + 1) _ _ _ rfl (G1.out.row _) rfl Tryz.underlying114 rfl cells8 ⟨by rw [← HA.out, e0], below_setRow G3.out (by omega) _⟩

end Go.Proofs.YtnbaoihamjdjdaaGreatDoor.Sp

/- Package sha: the sum of a text. -/
namespace Go.Proofs.YtnbaoihamjdjdaaGreatDoor.Sp
open Go Go.RowKit

theorem absorb_append (c : List UInt8) (m : Nat) : ∀ (k : Nat) (s : St) (a : List UInt8), a.length = 64 * k → absorb (k + m) s (a ++ c) = absorb m (absorb k s a) c := by
  intro k
  induction k with
  | zero => intro s a h; have : a = [] := List.eq_nil_of_length_eq_zero (by omega); subst this; simp [absorb]
  | succ k ih =>
    intro s a h
    rw [show k + 1 + m = (k + m) + 1 by omega]
    simp only [absorb]
    rw [List.take_append_of_le_length (by omega), List.drop_append_of_le_length (by omega)]
    exact ih _ _ (by rw [List.length_drop]; omega)
theorem pad_length (n : Nat) : (pad n).length = 9 + zeros n := by simp [pad, bytes4_length]; omega
theorem padded_length (l : List UInt8) : (padded l).length % 64 = 0 := by
  unfold padded; rw [List.length_append, pad_length]; unfold zeros; omega
theorem sum_eq (l : List UInt8) (e : Nat) (he : e = l.length - l.length % 64) :
    encode (absorb ((l.drop e ++ pad l.length).length / 64) (absorb (e / 64) st0 (l.take e)) (l.drop e ++ pad l.length)) = sum l := by
  have h := absorb_append (l.drop e ++ pad l.length) ((l.drop e ++ pad l.length).length / 64) (e / 64) st0 (l.take e) (by rw [List.length_take]; omega)
  rw [← h, ← List.append_assoc, List.take_append_drop]
  unfold sum padded
  have hp := pad_length l.length
  have hz := zeros_le l.length
  have : e / 64 + (l.drop e ++ pad l.length).length / 64 = (l ++ pad l.length).length / 64 := by
    rw [List.length_append, List.length_append, List.length_drop]; omega
  rw [this]

theorem sum_fin (b : ByteArray) (e : Nat) (he : e = b.size - b.size % 64) (P : ByteArray) (hP : P = ⟨(pad b.size).toArray⟩) (R : St) (hR : R = absorb ((b.extract 0 e).size / 64) st0 (b.extract 0 e).data.toList) :
    encode (absorb ((b.size - e + P.size) / 64) R (List.take (b.size - e) (List.drop e b.data.toList) ++ P.data.toList)) = sum b.data.toList := by
  have hl : b.data.toList.length = b.size := by simp
  have hPl : P.data.toList = pad b.size := by rw [hP]
  have hPs : P.size = (pad b.size).length := by rw [← hPl]; simp
  have h1 : (b.extract 0 e).data.toList = b.data.toList.take e := by rw [Lib.extract_data]; simp
  have h2 : (b.extract 0 e).size = e := by rw [← size_list, h1, List.length_take, hl]; omega
  have h3 : List.take (b.size - e) (List.drop e b.data.toList) = List.drop e b.data.toList := List.take_of_length_le (by rw [List.length_drop, hl]; exact Nat.le_refl _)
  have h4 : b.size - e + P.size = (b.data.toList.drop e ++ pad b.size).length := by rw [List.length_append, List.length_drop, hl, hPs]
  rw [hR, h1, h2, h3, hPl, h4, ← hl]
  exact sum_eq b.data.toList e (by rw [hl]; exact he)

section
variable {w w0 w1 : World}
theorem Lo.drew (w : World) : Hid (Below w.heap.size w w.drew) := (Below.refl _ w).drew
theorem Lo.first (w : World) (o : Obj) : Hid (Below w.heap.size w (w.alloc o).drew) := ((Below.refl _ w).alloc (Nat.le_refl _) o).drew
theorem Lo.call (h : Hid (Below w.heap.size w w0)) (h1 : Below w0.heap.size w0 w1) : Hid (Below w.heap.size w w1) := Below.trans h (h1.mono (Below.size h))
theorem Lo.alloc (h : Hid (Below w.heap.size w w0)) (o : Obj) : Hid (Below w.heap.size w (w0.alloc o)) := Below.alloc h (Below.size h) o
theorem Lo.setc (h : Hid (Below w.heap.size w w0)) {p : Addr} (hp : w.heap.size ≤ p.block) (u : Value) : Hid (Below w.heap.size w (w0.setCell p u)) := Below.setCell h hp u
theorem Lo.big (h : Hid (Below w.heap.size w w0)) : w.heap.size ≤ w0.heap.size := Below.size h
theorem Lo.tab (hT : Hid (Tab w)) (h : Hid (Below w.heap.size w w0)) : Tab w0 := Tab.below hT h (Tab.lt hT)
end
@[reducible] def EightA (X : Nat) (R : St) (wc w' : World) : Prop := w'.cell? ⟨X, 0, none⟩ = some (.int .u32 (U R.a)) ∧ w'.cell? ⟨X, 1, none⟩ = some (.int .u32 (U R.b)) ∧ w'.cell? ⟨X, 2, none⟩ = some (.int .u32 (U R.c)) ∧ w'.cell? ⟨X, 3, none⟩ = some (.int .u32 (U R.d)) ∧ w'.cell? ⟨X, 4, none⟩ = some (.int .u32 (U R.e)) ∧ w'.cell? ⟨X, 5, none⟩ = some (.int .u32 (U R.f)) ∧ w'.cell? ⟨X, 6, none⟩ = some (.int .u32 (U R.g)) ∧ w'.cell? ⟨X, 7, none⟩ = some (.int .u32 (U R.h)) ∧ Hid (Below wc.heap.size wc w')
section
variable {X : Nat} {R : St} {wc w0 w1 : World}
theorem EightA.mk (hat : At8 wc X R) (h : Below wc.heap.size wc w1) : EightA X R wc w1 :=
  have hX := block_lt_of_cell hat.1
  have e := fun i => h.cell (p := ⟨X, i, none⟩) hX
  ⟨(e 0).trans hat.1, (e 1).trans hat.2.1, (e 2).trans hat.2.2.1, (e 3).trans hat.2.2.2.1, (e 4).trans hat.2.2.2.2.1, (e 5).trans hat.2.2.2.2.2.1, (e 6).trans hat.2.2.2.2.2.2.1, (e 7).trans hat.2.2.2.2.2.2.2, h⟩
theorem EightA.drew (hat : Hid (At8 wc X R)) : EightA X R wc wc.drew := EightA.mk hat (Below.refl _ wc).drew
theorem EightA.call (hat : Hid (At8 wc X R)) (h : EightA X R wc w0) (h1 : Below w0.heap.size w0 w1) : EightA X R wc w1 :=
  have h0 : Below wc.heap.size wc w0 := h.2.2.2.2.2.2.2.2
  EightA.mk hat (h0.trans (h1.mono h0.size))
theorem EightA.last (h : EightA X R wc w0) : Hid (Below wc.heap.size wc w0) := h.2.2.2.2.2.2.2.2
theorem EightA.tab (hT : Hid (Tab wc)) (h : EightA X R wc w0) : Tab w0 :=
  have h0 : Below wc.heap.size wc w0 := h.2.2.2.2.2.2.2.2
  Tab.below hT h0 (Tab.lt hT)
end

theorem absorb_lit (s : St) (b : ByteArray) (hb : b.size ≤ 9223372036854775807) (w : World) (hT : Tab w) :
    Calls Tryz.prog 89 #[.agg (arr s.ws), .string b] w fun e w' => e = .returned (.agg #[.int .u32 (U (absorb (b.size / 64) s b.data.toList).a), .int .u32 (U (absorb (b.size / 64) s b.data.toList).b), .int .u32 (U (absorb (b.size / 64) s b.data.toList).c), .int .u32 (U (absorb (b.size / 64) s b.data.toList).d), .int .u32 (U (absorb (b.size / 64) s b.data.toList).e), .int .u32 (U (absorb (b.size / 64) s b.data.toList).f), .int .u32 (U (absorb (b.size / 64) s b.data.toList).g), .int .u32 (U (absorb (b.size / 64) s b.data.toList).h)]) ∧ Below w.heap.size w w' :=
  absorb_any s b hb w hT

set_option maxHeartbeats 2000000 in
set_option maxRecDepth 100000 in
theorem sum_any (b : ByteArray) (hb : b.size ≤ 9223372036854775000) (w : World) (hT : Tab w) :
    Calls Tryz.prog 76 #[.string b] w fun e w' => e = .returned (.string ⟨(sum b.data.toList).toArray⟩) ∧ Below w.heap.size w w' := by
  have HT := Lib.hid hT
  clear hT
  obtain ⟨e, he⟩ : ∃ e, e = b.size - b.size % 64 := ⟨_, rfl⟩
  have heI : (b.size : Int) - (b.size : Int) % 64 = (e : Int) := by omega
  have hle : e ≤ b.size := by omega
  have hleI : (e : Int) ≤ (b.size : Int) := by omega
  have HE := Lib.hid he
  clear he
  go_enter Tryz.func76, Tryz.ntmps76
  go_upto_region 2 with fail
  go_cut [4] (fun v wc => ∃ X : Nat, v = .pointer (some ⟨X, 0, none⟩) ∧ At8 wc X (absorb ((b.extract 0 e).size / 64) st0 (b.extract 0 e).data.toList) ∧ Hid (Below w.heap.size w wc))
  case first =>
    go_region_held3 (fun w' => Hid (Below w.heap.size w w')) ((first | (with_reducible exact Lo.drew _) | (with_reducible exact Lo.first _ _) | (with_reducible assumption) | (with_reducible exact Lo.alloc (by assumption) _) | ((repeat (with_reducible refine Lo.setc ?_ (by first | exact Nat.le_refl _ | exact Lo.big (by assumption)) _)); (with_reducible assumption)))) (first
      | (go_at_call 90; refine (initial_any _).mono ?_; rintro e w1 ⟨rfl, hb1⟩; have HS1 := Lo.call (by assumption) hb1; obtain ⟨hc, hf⟩ := bcell hb1; (try (have hz1 : w.heap.size < w1.heap.size := by (have hq := hb1.size; simp at hq; omega))); clear hb1)
      | (go_at_call 89; refine (absorb_lit st0 (b.extract 0 e) (by simp; omega) _ (Lo.tab HT (by assumption))).mono ?_; rintro e w1 ⟨rfl, hb1⟩; have HS1 := Lo.call (by assumption) hb1; obtain ⟨hc, hf⟩ := bcell hb1; (try (have hz1 : w.heap.size < w1.heap.size := by (have hq := hb1.size; simp at hq; omega))); clear hb1))
    all_goals
      go_wp2_with fail
      go_meet
      refine ⟨_, rfl, ?_, ?_⟩
      · unfold At8
        go_simp
      · first | (with_reducible assumption)
  case rest =>
    obtain ⟨X, rfl, hat0, hbw⟩ := hcut
    obtain ⟨R, eR⟩ : ∃ R, R = absorb ((b.extract 0 e).size / 64) st0 (b.extract 0 e).data.toList := ⟨_, rfl⟩
    rw [← eR] at hat0
    have ER := Lib.hid eR
    have hat := Lib.hid hat0
    have HTc := Lib.hid (HT.out.below hbw.out HT.out.lt)
    clear hat0 eR
    obtain ⟨P, eP⟩ : ∃ P : ByteArray, P = ⟨(pad b.size).toArray⟩ := ⟨_, rfl⟩
    have hPs : P.size ≤ 72 := by rw [eP]; have h1 := pad_length b.size; have h2 := zeros_le b.size; show (pad b.size).toArray.size ≤ 72; simp; omega
    have hpad := fun W => pad_any b.size (by omega) W
    rw [← eP] at hpad
    have HP := Lib.hid hpad
    have EP := Lib.hid eP
    clear hpad eP
    have hadd : ¬ 9223372036854775807 < b.size - e + P.size := by omega
    go_wp2_with fail
    go_region_held3 (fun w' => w'.cell? ⟨X, 0, none⟩ = some (.int .u32 (U R.a)) ∧ w'.cell? ⟨X, 1, none⟩ = some (.int .u32 (U R.b)) ∧ w'.cell? ⟨X, 2, none⟩ = some (.int .u32 (U R.c)) ∧ w'.cell? ⟨X, 3, none⟩ = some (.int .u32 (U R.d)) ∧ w'.cell? ⟨X, 4, none⟩ = some (.int .u32 (U R.e)) ∧ w'.cell? ⟨X, 5, none⟩ = some (.int .u32 (U R.f)) ∧ w'.cell? ⟨X, 6, none⟩ = some (.int .u32 (U R.g)) ∧ w'.cell? ⟨X, 7, none⟩ = some (.int .u32 (U R.h)) ∧ Hid (Below wc.heap.size wc w')) ((first | (with_reducible exact EightA.drew hat) | (with_reducible exact Hid.out (by assumption)))) (first
      | (go_at_call 92; refine (HP.out _).mono ?_; rintro e w1 ⟨rfl, hb1⟩; have HS1 := Lib.hid (EightA.call hat (by assumption) hb1); clear hb1)
      | (go_at_call 89; refine (absorb_any R (b.extract e b.size ++ P) (by simp; omega) _ (EightA.tab HTc (by assumption))).mono ?_; rintro e w1 ⟨rfl, hb1⟩; have HS1 := Lib.hid (EightA.call hat (by assumption) hb1); clear hb1)
      | (go_at_call 91; refine (encode_any _ _).mono ?_; rintro e w1 ⟨rfl, hb1⟩; have HS1 := Lib.hid (EightA.call hat (by assumption) hb1); clear hb1))
    go_wp2_with fail
    go_ret
    refine ⟨ret_string ?_, ?_⟩
    · exact sum_fin b e HE.out P EP.out R ER.out
    · refine hbw.out.trans (Below.mono (B := wc.heap.size) ?_ hbw.out.size)
      first | (with_reducible exact Hid.out (EightA.last (by assumption))) | (with_reducible exact Hid.out (EightA.last (Hid.out (by assumption))))

end Go.Proofs.YtnbaoihamjdjdaaGreatDoor.Sp

/- Plain facts on SHA-256: a state is read back out of its text; blocks one behind the other. -/
namespace Go.Proofs.YtnbaoihamjdjdaaGreatDoor.Sp
open Go Go.RowKit
set_option maxRecDepth 100000

theorem lowB_byteW (y : W) : byteW (lowB y) = y &&& 255#32 := by
  unfold byteW lowB
  apply BitVec.eq_of_toNat_eq
  rw [BitVec.toNat_ofNat, UInt8.toNat_ofNat', BitVec.toNat_and]
  show y.toNat % 256 % 4294967296 = y.toNat &&& 255
  rw [show (255 : Nat) = 2 ^ 8 - 1 from rfl, Nat.and_two_pow_sub_one_eq_mod]
  omega
theorem word_bytes4 (x : W) : byteW (lowB (x >>> 24)) <<< 24 ||| byteW (lowB (x >>> 16)) <<< 16 ||| byteW (lowB (x >>> 8)) <<< 8 ||| byteW (lowB x) = x := by
  rw [lowB_byteW, lowB_byteW, lowB_byteW, lowB_byteW]
  apply BitVec.eq_of_getLsbD_eq
  intro i hi
  have h255 : ∀ j : Nat, (255#32).getLsbD j = decide (j < 8) := by
    intro j
    rw [show (255#32) = BitVec.ofNat 32 (2^8-1) from rfl, BitVec.getLsbD_ofNat, Nat.testBit_two_pow_sub_one]
    by_cases h : j < 8 <;> simp [h]; omega
  simp only [BitVec.getLsbD_or, BitVec.getLsbD_shiftLeft, BitVec.getLsbD_and, BitVec.getLsbD_ushiftRight, h255, hi, decide_true, Bool.true_and]
  by_cases h1 : i < 8
  · simp [h1, show i < 16 by omega, show i < 24 by omega]
  · by_cases h2 : i < 16
    · simp [h1, h2, show i < 24 by omega, show i - 8 < 8 by omega, show 8 + (i - 8) = i by omega]
    · by_cases h3 : i < 24
      · simp [h1, h2, h3, show ¬ i - 8 < 8 by omega, show i - 16 < 8 by omega, show 16 + (i - 16) = i by omega]
      · simp [h1, h2, h3, show ¬ i - 8 < 8 by omega, show ¬ i - 16 < 8 by omega, show i - 24 < 8 by omega, show 24 + (i - 24) = i by omega]
theorem decode_encode (s : St) : decode (encode s) = s := by
  obtain ⟨a, b, c, d, e, f, g, h⟩ := s
  have e0 : decode (encode ⟨a, b, c, d, e, f, g, h⟩) = ⟨byteW (lowB (a >>> 24)) <<< 24 ||| byteW (lowB (a >>> 16)) <<< 16 ||| byteW (lowB (a >>> 8)) <<< 8 ||| byteW (lowB a),
    byteW (lowB (b >>> 24)) <<< 24 ||| byteW (lowB (b >>> 16)) <<< 16 ||| byteW (lowB (b >>> 8)) <<< 8 ||| byteW (lowB b),
    byteW (lowB (c >>> 24)) <<< 24 ||| byteW (lowB (c >>> 16)) <<< 16 ||| byteW (lowB (c >>> 8)) <<< 8 ||| byteW (lowB c),
    byteW (lowB (d >>> 24)) <<< 24 ||| byteW (lowB (d >>> 16)) <<< 16 ||| byteW (lowB (d >>> 8)) <<< 8 ||| byteW (lowB d),
    byteW (lowB (e >>> 24)) <<< 24 ||| byteW (lowB (e >>> 16)) <<< 16 ||| byteW (lowB (e >>> 8)) <<< 8 ||| byteW (lowB e),
    byteW (lowB (f >>> 24)) <<< 24 ||| byteW (lowB (f >>> 16)) <<< 16 ||| byteW (lowB (f >>> 8)) <<< 8 ||| byteW (lowB f),
    byteW (lowB (g >>> 24)) <<< 24 ||| byteW (lowB (g >>> 16)) <<< 16 ||| byteW (lowB (g >>> 8)) <<< 8 ||| byteW (lowB g),
    byteW (lowB (h >>> 24)) <<< 24 ||| byteW (lowB (h >>> 16)) <<< 16 ||| byteW (lowB (h >>> 8)) <<< 8 ||| byteW (lowB h)⟩ := rfl
  rw [e0]; simp only [word_bytes4]
theorem absorb_succ : ∀ (k : Nat) (s : St) (l : List UInt8), absorb (k + 1) s l = compress (absorb k s l) ((l.drop (64 * k)).take 64) := by
  intro k
  induction k with
  | zero => intro s l; simp [absorb]
  | succ k ih =>
    intro s l
    rw [absorb, ih, List.drop_drop]
    rw [show absorb (k + 1) s l = absorb k (compress s (l.take 64)) (l.drop 64) from rfl, show 64 + 64 * k = 64 * (k + 1) by omega]

/-- The text of a state, as bytes. -/
def encB (s : St) : ByteArray := ⟨(encode s).toArray⟩
theorem encB_size (s : St) : (encB s).size = 32 := by unfold encB; show (encode s).toArray.size = 32; rw [List.size_toArray]; exact encode_length s
theorem encB_list (s : St) : (encB s).data.toList = encode s := rfl
theorem extract_block (A : ByteArray) (j : Nat) : (A.extract j (j + 64)).data.toList = (A.data.toList.drop j).take 64 := by
  rw [Lib.extract_data, show j + 64 - j = 64 by omega]
/-- One block more. -/
theorem step_block (A : ByteArray) (s : St) (j : Nat) (hj : j % 64 = 0) :
    encB (compress (decode (encB (absorb (j / 64) s A.data.toList)).data.toList) (A.extract j (j + 64)).data.toList) = encB (absorb ((j + 64) / 64) s A.data.toList) := by
  rw [encB_list, decode_encode, extract_block, show (j + 64) / 64 = j / 64 + 1 by omega, absorb_succ, show 64 * (j / 64) = j by omega]
theorem sumB (b : ByteArray) (A : ByteArray) (hA : A.data.toList = padded b.data.toList) : encB (absorb (A.size / 64) st0 A.data.toList) = ⟨(sum b.data.toList).toArray⟩ := by
  unfold encB sum; rw [← hA, size_list]

end Go.Proofs.YtnbaoihamjdjdaaGreatDoor.Sp

/- Package sha: the input of a list of parts, and its sum. -/
namespace Go.Proofs.YtnbaoihamjdjdaaGreatDoor.Sp
open Go Go.RowKit
set_option maxRecDepth 100000

/-- A slice value over n texts. -/
def Strs (w : World) (a : Option Addr) (n : Nat) (ss : List ByteArray) : Prop :=
  ss.length = n ∧ (0 < n → ∃ b off, a = some ⟨b, off, none⟩ ∧ ∀ j, j < n → w.cell? ⟨b, off + j, none⟩ = some (.string (ss.getD j ByteArray.empty)))
theorem Strs.below {w w' : World} {a : Option Addr} {n : Nat} {ss : List ByteArray} (h : Strs w a n ss) (hb : Below w.heap.size w w') : Strs w' a n ss :=
  ⟨h.1, fun hn => by
    obtain ⟨b, off, e, hc⟩ := h.2 hn
    exact ⟨b, off, e, fun j hj => (hb.cell (p := ⟨b, off + j, none⟩) (block_lt_of_cell (hc j hj))).trans (hc j hj)⟩⟩

/-- The bytes of the first k parts, each behind its length. -/
def partB (s : ByteArray) : List UInt8 := bytes4 (BitVec.ofNat 32 s.size) ++ s.data.toList
def inp (d : UInt8) (ss : List ByteArray) (k : Nat) : List UInt8 := d :: (ss.take k).flatMap partB
def inB (d : UInt8) (ss : List ByteArray) : List UInt8 := d :: ss.flatMap partB
def len2 (ss : List ByteArray) (k : Nat) : Nat := 1 + ((ss.take k).map fun s => 4 + s.size).sum
theorem take_getB (ss : List ByteArray) (k : Nat) (hk : k < ss.length) : ss.take (k + 1) = ss.take k ++ [ss.getD k ByteArray.empty] := by
  rw [List.take_succ_eq_append_getElem hk, List.getD_eq_getElem?_getD, List.getElem?_eq_getElem hk]; rfl
theorem inp_succ (d : UInt8) (ss : List ByteArray) (k : Nat) (hk : k < ss.length) : inp d ss (k + 1) = inp d ss k ++ bytes4 (BitVec.ofNat 32 (ss.getD k ByteArray.empty).size) ++ (ss.getD k ByteArray.empty).data.toList := by
  unfold inp; rw [take_getB ss k hk]; simp [partB]
theorem inp_all (d : UInt8) (ss : List ByteArray) : inp d ss ss.length = inB d ss := by unfold inp inB; rw [List.take_length]
theorem len2_succ (ss : List ByteArray) (k : Nat) (hk : k < ss.length) : len2 ss (k + 1) = len2 ss k + (4 + (ss.getD k ByteArray.empty).size) := by
  unfold len2; rw [take_getB ss k hk]; simp; omega
theorem inp_length (d : UInt8) (ss : List ByteArray) (k : Nat) : (inp d ss k).length = len2 ss k := by
  unfold inp len2
  generalize ss.take k = l
  induction l with
  | nil => rfl
  | cons x l ih => simp [List.flatMap_cons, partB, bytes4_length] at ih ⊢; omega
theorem len2_mono (ss : List ByteArray) (k m : Nat) (h : k ≤ m) : len2 ss k ≤ len2 ss m := by
  induction m with
  | zero => have : k = 0 := by omega
            subst this; exact Nat.le_refl _
  | succ m ih =>
    by_cases hk : k = m + 1
    · subst hk; exact Nat.le_refl _
    · have := ih (by omega)
      by_cases hm : m < ss.length
      · rw [len2_succ ss m hm]; omega
      · unfold len2 at *
        rw [List.take_of_length_le (by omega : ss.length ≤ m + 1)]
        rw [List.take_of_length_le (by omega : ss.length ≤ m)] at this
        exact this
theorem strCells_eq (s : ByteArray) : Lib.strCells s = byteVs s.data.toList := by
  rfl

theorem run_make_in (c : Nat) (hc : 1 ≤ c) (hc2 : c ≤ 281474976710656) (u : World) : (Instr.makeSlice 68 (.int .i64 1) (.int .i64 (c : Int))).run Tryz.prog u =
    .ok (.slice (some ⟨u.heap.size, 0, none⟩) 1 c) (u.alloc (.cells (madeCells #[.int .u8 0] c) 5)) := by
  obtain ⟨i0, hi, hz0, hz1, hz2⟩ := info_parts infoByte
  have h := run_make (P := Tryz.prog) u 68 5 i0 (.int .u8 0) Tryz.underlying68 hi hz0 .i64 .i64 1 (c : Int) (by omega) (by omega) (by rw [hz2]; omega) (by omega)
  have e2 : ((c : Int)).toNat = c := by omega
  rw [e2] at h
  simpa [hz1, Value.cells] using h
theorem own_in (w : World) (c : Nat) (hc : 1 ≤ c) (hc2 : c ≤ 281474976710656) (d : UInt8) (base : Nat) (hb : base ≤ w.heap.size) :
    Own (w.alloc (.cells ((madeCells #[.int .u8 0] c).setIfInBounds 0 (.int .u8 (d.toNat : Int))) 5)) base (.slice (some ⟨w.heap.size, 0, none⟩) 1 c) [d] := by
  refine ⟨by simp [byteVs], .inr ⟨w.heap.size, c, _, rfl, hb, heap_alloc_new w _, hc, by unfold maxLen; omega, by simp [size_madeCells], ?_⟩⟩
  rw [Array.toList_setIfInBounds, madeCells_toList]
  obtain ⟨c', rfl⟩ : ∃ c', c = c' + 1 := ⟨c - 1, by omega⟩
  simp [byteVs, byteV, List.replicate_succ]

section
attribute [local go_sem] wrap8_U shr24_U shr16_U shr8_U
set_option maxHeartbeats 400000 in
/-- Four bytes more, where there is room. -/
theorem appendWord_fits (x : W) (g n c : Nat) (l : List UInt8) (base : Nat) (w : World) (hown : Own w base (.slice (some ⟨g, 0, none⟩) n c) l) (hroom : n + 4 ≤ c) :
    Calls Tryz.prog 93 #[.slice (some ⟨g, 0, none⟩) n c, .int .u32 (U x)] w fun e w' => e = .returned (.slice (some ⟨g, 0, none⟩) (n + 4) c) ∧ Own w' base (.slice (some ⟨g, 0, none⟩) (n + 4) c) (l ++ bytes4 x) ∧ w.grownBy w' (some g) := by
  obtain ⟨i0, hi, hz0, hz1, hz2⟩ := info_parts infoByte
  unfold Own at hown
  have hn : l.length = n := by
    rcases hown.2 with ⟨h1, _⟩ | ⟨_, _, _, h1, _⟩
    · cases h1
    · injection h1 with _ h2 _; exact h2.symm
  rw [hn] at hown
  go_enter Tryz.func93, Tryz.ntmps93
  go_wp2_with (first
    | (at_builtin; refine wpList_append_own_spare _ rfl (.tmp 5) (.tmp 17) 68 rfl base 5 i0 1 Tryz.underlying68 hi hz1 g n c _ rfl (hown.alloc _) ⟨w.heap.size, 0, none⟩ 4 4 [byteV (lowB (x >>> 24)), byteV (lowB (x >>> 16)), byteV (lowB (x >>> 8)), byteV (lowB x)] rfl rfl ?c1 ?c2 hroom ?_))
  case c1 => intro j u hj; exact new_cell _ _ _ hj
  case c2 => intro u hu; simp at hu; rcases hu with rfl | rfl | rfl | rfl <;> rfl
  intro w1 hown1 hgrow
  have HO := Lib.hid hown1
  have HG := Lib.hid hgrow
  clear hown1 hgrow hown
  go_wp2
  go_ret
  refine ⟨rfl, ?_, grown_of_alloc HG.out⟩
  unfold Own
  rw [byteVs_append, List.length_append, hn]
  exact HO.out
end

set_option maxHeartbeats 2000000 in
theorem input_any (d : UInt8) (a : Option Addr) (n c : Nat) (ss : List ByteArray) (w : World) (h : Strs w a n ss) (hn : n ≤ 9223372036854775807) (hlen : len2 ss n ≤ 281474976710656) :
    Calls Tryz.prog 77 #[.int .u8 (d.toNat : Int), .slice a n c] w fun e w' => e = .returned (.string ⟨(inB d ss).toArray⟩) ∧ Below w.heap.size w w' := by
  have HH := Lib.hid h
  have HN := Lib.hid h.1
  clear h
  go_enter Tryz.func77, Tryz.ntmps77
  go_wp2_with fail
  go_loop [5, 13] (fun v i => ∃ k : Nat, k ≤ n ∧ v = .int .i64 ((len2 ss k : Nat) : Int) ∧ i = .int .i64 (k : Int)) (fun _ i => n - (intOf i).toNat)
  case atStart => exact ⟨0, Nat.zero_le _, rfl, rfl⟩
  case round =>
    obtain ⟨k, hk, rfl, rfl⟩ := hrel
    have hmono := len2_mono ss k n hk
    by_cases hlt : k < n
    · obtain ⟨b, off, rfl, hc⟩ := HH.out.2 (by omega)
      obtain ⟨S, eS⟩ : ∃ S, S = ss.getD k ByteArray.empty := ⟨_, rfl⟩
      have hcell := hc k hlt
      rw [← eS] at hcell
      have hs2 : len2 ss (k + 1) = len2 ss k + (4 + S.size) := by rw [eS]; exact len2_succ ss k (by rw [HN.out]; exact hlt)
      have hm2 := len2_mono ss (k + 1) n (by omega)
      have hss : S.size ≤ 281474976710656 := by omega
      have hsum : len2 ss k + (4 + S.size) ≤ 281474976710656 := by omega
      have HS2 := Lib.hid hs2
      clear hs2 hm2 hc eS
      go_wp2_with fail
      go_round
      case rel => exact ⟨k + 1, by omega, by rw [HS2.out]; go_num, by go_num⟩
      case measure => simp [intOf]; omega
    · have hkn : k = n := by omega
      rw [hkn] at hmono ⊢
      clear hkn hmono hlt hk
      obtain ⟨L, eL⟩ : ∃ L : Nat, L = len2 ss n := ⟨_, rfl⟩
      have hL0 := len2_mono ss 0 n (Nat.zero_le _)
      have hL1 : 1 ≤ L := by rw [eL]; exact Nat.le_trans (by unfold len2; exact Nat.le_add_right 1 _) hL0
      rw [← eL] at hlen ⊢
      have EL := Lib.hid eL
      clear eL hL0
      have hm0 := madeCells_head L (by omega)
      have hmk := run_make_in L hL1 (by omega)
      go_wp2_with fail
      go_loopw [8, 30] (fun v i wr => ∃ k : Nat, k ≤ n ∧ v = .slice (some ⟨w.heap.size, 0, none⟩) (inp d ss k).length L ∧ Own wr w.heap.size v (inp d ss k) ∧ i = .int .i64 (k : Int) ∧ Below w.heap.size w wr) (fun _ i _ => n - (intOf i).toNat)
      case atStart => exact ⟨0, Nat.zero_le _, rfl, own_in w L hL1 (by omega) d w.heap.size (Nat.le_refl _), rfl, (Below.refl _ _).alloc (Nat.le_refl _) _⟩
      case round =>
        clear hmk hm0
        obtain ⟨k, hk, rfl, hown, rfl, hbel⟩ := hrel
        have HO := Lib.hid hown
        have HB := Lib.hid hbel
        have hsz := hbel.size
        clear hown hbel
        by_cases hlt : k < n
        · obtain ⟨b, off, rfl, hc⟩ := HH.out.2 (by omega)
          obtain ⟨S, eS⟩ : ∃ S, S = ss.getD k ByteArray.empty := ⟨_, rfl⟩
          have hcell0 := hc k hlt
          have hcell : wr.cell? ⟨b, off + k, none⟩ = some (.string S) := by
            rw [eS]; exact (HB.out.cell (p := ⟨b, off + k, none⟩) (block_lt_of_cell hcell0)).trans hcell0
          have hs2 : len2 ss (k + 1) = len2 ss k + (4 + S.size) := by rw [eS]; exact len2_succ ss k (by rw [HN.out]; exact hlt)
          have hm2 := len2_mono ss (k + 1) n (by omega)
          have hLn := EL.out
          have hil := inp_length d ss k
          have hss : S.size ≤ 281474976710656 := by omega
          have hi1 : (inp d ss k).length + 4 + S.size ≤ L := by omega
          have hsucc := Lib.hid (show inp d ss (k + 1) = inp d ss k ++ bytes4 (BitVec.ofNat 32 S.size) ++ S.data.toList from by rw [eS]; exact inp_succ d ss k (by rw [HN.out]; exact hlt))
          have hu : (S.size : Int) % 4294967296 = U (BitVec.ofNat 32 S.size) := by rw [← IntKind.wrap_u32', wrap_u32_nat]
          clear hs2 hm2 hc eS hcell0 hLn hil
          go_wp2_with fail
          refine (appendWord_fits (BitVec.ofNat 32 S.size) w.heap.size (inp d ss k).length L (inp d ss k) w.heap.size _ HO.out (by omega)).mono ?_
          rintro e w1 ⟨rfl, hown1, hg1⟩
          have HO1 := Lib.hid hown1
          have HB1 := Lib.hid (HB.out.grown hg1 hsz (fun k' hk' => by cases hk'; exact Nat.le_refl _))
          have hsz1 := HB1.out.size
          clear hown1 hg1
          obtain ⟨i0, hi0, hz0, hz1, hz2⟩ := info_parts infoByte
          go_wp2_with (at_builtin; refine Lib.wpList_append_fits_string _ rfl (.tmp 39) (.tmp 40) 68 9 rfl w.heap.size 5 i0 Tryz.underlying68 Tryz.underlying9 hi0 hz1 (some ⟨w.heap.size, 0, none⟩) ((inp d ss k).length + 4) L (byteVs (inp d ss k ++ bytes4 (BitVec.ofNat 32 S.size))) rfl ?c0 S rfl (by omega) (by omega) ?_)
          case c0 => have h9 := HO1.out; unfold Own at h9; rw [List.length_append, bytes4_length] at h9; exact h9
          intro w2 hown2 hg2
          have hl2 := Lib.hid (show (inp d ss k).length + 4 + S.size = (inp d ss (k + 1)).length from by rw [hsucc.out, List.length_append, List.length_append, bytes4_length, size_list])
          have HO2 := Lib.hid (show Own w2 w.heap.size (.slice (some ⟨w.heap.size, 0, none⟩) ((inp d ss k).length + 4 + S.size) L) (inp d ss (k + 1)) from by
            unfold Own
            rw [← hl2.out, hsucc.out, byteVs_append]
            exact hown2)
          have HB2 := Lib.hid (HB1.out.grown hg2 hsz1 (fun k' hk' => by simp [Value.ownBlock] at hk'; omega))
          clear hown2 hg2
          go_wp2_with fail
          go_roundw
          case rel => exact ⟨k + 1, by omega, by rw [hl2.out], HO2.out, by go_num, HB2.out⟩
          case measure => simp [intOf]; omega
        · have hconv := run_text_of_own HO.out
          have hki : ¬ (k : Int) < (n : Int) := by omega
          have hkn : k = n := by omega
          have HKN := Lib.hid hkn
          clear hkn hlt hk
          go_wp2_with fail
          go_ret
          exact ⟨ret_string (by rw [HKN.out, ← HN.out]; exact inp_all d ss), HB.out⟩

end Go.Proofs.YtnbaoihamjdjdaaGreatDoor.Sp

/- Package sha: Pad and Sum, their answers under names. -/
namespace Go.Proofs.YtnbaoihamjdjdaaGreatDoor.Sp
open Go Go.RowKit
set_option maxRecDepth 100000

theorem padB (n : Nat) (h : n ≤ 9223372036854775807) (w : World) (P : ByteArray) (hP : P = ⟨(pad n).toArray⟩) :
    Calls Tryz.prog 92 #[.int .i64 (n : Int)] w fun e w' => e = .returned (.string P) ∧ Below w.heap.size w w' := by
  rw [hP]; exact pad_any n h w
theorem padB_size (n : Nat) (P : ByteArray) (hP : P = ⟨(pad n).toArray⟩) : P.size = 9 + zeros n := by
  rw [hP]; show (pad n).toArray.size = _; rw [List.size_toArray, pad_length]
theorem sumA (b : ByteArray) (hb : b.size ≤ 9223372036854775000) (w : World) (hT : Tab w) (R : ByteArray) (hR : R = ⟨(sum b.data.toList).toArray⟩) :
    Calls Tryz.prog 76 #[.string b] w fun e w' => e = .returned (.string R) ∧ Below w.heap.size w w' := by
  rw [hR]; exact sum_any b hb w hT

end Go.Proofs.YtnbaoihamjdjdaaGreatDoor.Sp

/- Package sha: Tag. -/
namespace Go.Proofs.YtnbaoihamjdjdaaGreatDoor.Sp
open Go Go.RowKit
set_option maxRecDepth 100000

/-- Tag is the sum of the input. -/
theorem tag_any (d : UInt8) (a : Option Addr) (n c : Nat) (ss : List ByteArray) (w : World) (h : Strs w a n ss) (hn : n ≤ 9223372036854775807) (hlen : len2 ss n ≤ 281474976710656) (hT : Tab w) :
    Calls Tryz.prog 51 #[.int .u8 (d.toNat : Int), .slice a n c] w fun e w' => e = .returned (.string ⟨(sum (inB d ss)).toArray⟩) ∧ Below w.heap.size w w' := by
  have HH := Lib.hid h
  have HT := Lib.hid hT
  obtain ⟨I, eI⟩ : ∃ I : ByteArray, I = ⟨(inB d ss).toArray⟩ := ⟨_, rfl⟩
  have hIl : I.data.toList = inB d ss := by rw [eI]
  have hIs : I.size ≤ 281474976710656 := by rw [← size_list, hIl, ← inp_all, inp_length, h.1]; exact hlen
  have HI := Lib.hid hIl
  have EI := Lib.hid eI
  clear h hT eI hIl
  go_enter Tryz.func51, Tryz.ntmps51
  go_wp2_with fail
  refine (input_any d a n c ss _ HH.out hn hlen).mono ?_
  rintro e w1 ⟨rfl, hb1⟩
  have B1 := Lib.hid hb1
  have HT1 := Lib.hid (HT.out.below hb1 HT.out.lt)
  clear hb1
  rw [← EI.out]
  go_wp2_with fail
  refine (sum_any I (by omega) _ HT1.out).mono ?_
  rintro e w2 ⟨rfl, hb2⟩
  have B2 := Lib.hid (B1.out.trans (hb2.mono B1.out.size))
  clear hb2
  go_wp2_with fail
  go_ret
  exact ⟨ret_string (by rw [HI.out]), B2.out⟩

end Go.Proofs.YtnbaoihamjdjdaaGreatDoor.Sp
