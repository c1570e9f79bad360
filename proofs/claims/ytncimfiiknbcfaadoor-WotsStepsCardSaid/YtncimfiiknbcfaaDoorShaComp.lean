/- Package sha: one block, and many. -/
import Derived.Test.YtncimfiiknbcfaaDoorShaMix
import Derived.Deep.RegionWith
import Derived.Deep.RegionHeld3
import Derived.StillTailTactics
import Derived.Deep.DeepCutAuto
namespace Go.Proofs.YtncimfiiknbcfaaDoor.Sp
open Go Go.RowKit

attribute [local go_sem] add_U addm_U

/-- What holds of each world while a region makes blocks beside an array of eight words that lies at block B. -/
@[reducible] def Eight (B : Nat) (s : St) (n : Nat) (wa w' : World) : Prop := w'.cell? ⟨B, 0, none⟩ = some (.int .u32 (U s.a)) ∧ w'.cell? ⟨B, 1, none⟩ = some (.int .u32 (U s.b)) ∧ w'.cell? ⟨B, 2, none⟩ = some (.int .u32 (U s.c)) ∧ w'.cell? ⟨B, 3, none⟩ = some (.int .u32 (U s.d)) ∧ w'.cell? ⟨B, 4, none⟩ = some (.int .u32 (U s.e)) ∧ w'.cell? ⟨B, 5, none⟩ = some (.int .u32 (U s.f)) ∧ w'.cell? ⟨B, 6, none⟩ = some (.int .u32 (U s.g)) ∧ w'.cell? ⟨B, 7, none⟩ = some (.int .u32 (U s.h)) ∧ Hid (Below n wa w')
section
variable {B : Nat} {s : St} {n : Nat} {wa w0 w1 : World}
theorem Eight.mk (hb : Blk wa B 68 (arr s.ws)) (hn : B < n) (h : Below n wa w1) : Eight B s n wa w1 :=
  have e := (hb.below h hn).cell
  ⟨e 0, e 1, e 2, e 3, e 4, e 5, e 6, e 7, h⟩
theorem Eight.call (hb : Hid (Blk wa B 68 (arr s.ws))) (hn : B < n) (hz : n ≤ wa.heap.size) (h : Eight B s n wa w0) (h1 : Below w0.heap.size w0 w1) : Eight B s n wa w1 :=
  have h0 : Below n wa w0 := h.2.2.2.2.2.2.2.2
  Eight.mk hb hn (h0.trans (h1.mono (Nat.le_trans hz h0.size)))
theorem Eight.alloc (hb : Hid (Blk wa B 68 (arr s.ws))) (hn : B < n) (hz : n ≤ wa.heap.size) (h : Eight B s n wa w0) (o : Obj) : Eight B s n wa (w0.alloc o) :=
  have h0 : Below n wa w0 := h.2.2.2.2.2.2.2.2
  Eight.mk hb hn (h0.alloc (Nat.le_trans hz h0.size) o)
theorem Eight.drew (hb : Hid (Blk wa B 68 (arr s.ws))) (hn : B < n) : Eight B s n wa wa.drew :=
  Eight.mk hb hn (Below.refl n wa).drew
theorem Eight.setc (hb : Hid (Blk wa B 68 (arr s.ws))) (hn : B < n) (h : Eight B s n wa w0) {p : Addr} (hp : n ≤ p.block) (u : Value) : Eight B s n wa (w0.setCell p u) :=
  have h0 : Below n wa w0 := h.2.2.2.2.2.2.2.2
  Eight.mk hb hn (h0.setCell hp u)
theorem Eight.big (hz : n ≤ wa.heap.size) (h : Eight B s n wa w0) : n ≤ w0.heap.size :=
  have h0 : Below n wa w0 := h.2.2.2.2.2.2.2.2
  Nat.le_trans hz h0.size
theorem Eight.last (h : Eight B s n wa w0) : Hid (Below n wa w0) := h.2.2.2.2.2.2.2.2
theorem bcell {W w1 : World} (hb : Below W.heap.size W w1) : (∀ b o, b < W.heap.size → w1.cell? ⟨b, o, none⟩ = W.cell? ⟨b, o, none⟩) ∧ (∀ b o, b < W.heap.size → w1.frozen? ⟨b, o, none⟩ = W.frozen? ⟨b, o, none⟩) :=
  ⟨fun b o h => hb.cell (p := ⟨b, o, none⟩) h, fun b o h => hb.frozen (p := ⟨b, o, none⟩) h⟩
theorem Eight.first (hb : Hid (Blk wa B 68 (arr s.ws))) (hn : B < n) (hz : n ≤ wa.heap.size) (o : Obj) : Eight B s n wa (wa.alloc o).drew :=
  Eight.mk hb hn ((Below.refl n wa).alloc hz o).drew
theorem Eight.tab (hT : Hid (Tab wa)) (hn : 3 < n) (h : Eight B s n wa w0) : Tab w0 :=
  have h0 : Below n wa w0 := h.2.2.2.2.2.2.2.2
  Tab.below hT h0 hn
end

/-- Eight words, cell by cell. -/
def At8 (w : World) (X : Nat) (R : St) : Prop := w.cell? ⟨X, 0, none⟩ = some (.int .u32 (U R.a)) ∧ w.cell? ⟨X, 1, none⟩ = some (.int .u32 (U R.b)) ∧ w.cell? ⟨X, 2, none⟩ = some (.int .u32 (U R.c)) ∧ w.cell? ⟨X, 3, none⟩ = some (.int .u32 (U R.d)) ∧ w.cell? ⟨X, 4, none⟩ = some (.int .u32 (U R.e)) ∧ w.cell? ⟨X, 5, none⟩ = some (.int .u32 (U R.f)) ∧ w.cell? ⟨X, 6, none⟩ = some (.int .u32 (U R.g)) ∧ w.cell? ⟨X, 7, none⟩ = some (.int .u32 (U R.h))
theorem At8.get {w : World} {X : Nat} {R : St} (h : At8 w X R) (k : Nat) (hk : k < 8) : w.cell? ⟨X, k, none⟩ = some (.int .u32 (U (gW R.ws k))) := by
  obtain ⟨h0, h1, h2, h3, h4, h5, h6, h7⟩ := h
  match k, hk with
  | 0, _ => exact h0
  | 1, _ => exact h1
  | 2, _ => exact h2
  | 3, _ => exact h3
  | 4, _ => exact h4
  | 5, _ => exact h5
  | 6, _ => exact h6
  | 7, _ => exact h7

theorem At8.far {w : World} {X : Nat} {R : St} (h : At8 w X R) {p : Addr} (hp : X ≠ p.block) (u : Value) : At8 (w.setCell p u) X R := by
  have e : ∀ i, (w.setCell p u).cell? ⟨X, i, none⟩ = w.cell? ⟨X, i, none⟩ := fun i => World.cell?_of_block (Below.heap_setCell w p u X hp)
  obtain ⟨h0, h1, h2, h3, h4, h5, h6, h7⟩ := h
  exact ⟨(e 0).trans h0, (e 1).trans h1, (e 2).trans h2, (e 3).trans h3, (e 4).trans h4, (e 5).trans h5, (e 6).trans h6, (e 7).trans h7⟩

/-- The first k words of a state with those of another one added. -/
def addP (s R : St) (k : Nat) : List W := (List.range 8).map fun i => if i < k then gW s.ws i + gW R.ws i else gW s.ws i
theorem addP_length (s R : St) (k : Nat) : (addP s R k).length = 8 := by simp [addP]
theorem addP_get (s R : St) (k : Nat) (hk : k < 8) : gW (addP s R k) k = gW s.ws k := by
  match k, hk with
  | 0, _ => rfl
  | 1, _ => rfl
  | 2, _ => rfl
  | 3, _ => rfl
  | 4, _ => rfl
  | 5, _ => rfl
  | 6, _ => rfl
  | 7, _ => rfl
theorem addP_set (s R : St) (k : Nat) (hk : k < 8) : (arr (addP s R k)).setIfInBounds k (.int .u32 (U (gW s.ws k + gW R.ws k))) = arr (addP s R (k + 1)) := by
  match k, hk with
  | 0, _ => rfl
  | 1, _ => rfl
  | 2, _ => rfl
  | 3, _ => rfl
  | 4, _ => rfl
  | 5, _ => rfl
  | 6, _ => rfl
  | 7, _ => rfl
theorem addP_all (s R : St) : addP s R 8 = (s.add R).ws := rfl

theorem mix_lit (s : St) (ws : List W) (hws : ws.length = 64) (w : World) (hT : Tab w) :
    Calls Tryd.prog 67 #[.agg (arr s.ws), .agg (arr ws)] w fun e w' => e = .returned (.agg #[.int .u32 (U (rounds ws 64 s).a), .int .u32 (U (rounds ws 64 s).b), .int .u32 (U (rounds ws 64 s).c), .int .u32 (U (rounds ws 64 s).d), .int .u32 (U (rounds ws 64 s).e), .int .u32 (U (rounds ws 64 s).f), .int .u32 (U (rounds ws 64 s).g), .int .u32 (U (rounds ws 64 s).h)]) ∧ Below w.heap.size w w' :=
  mix_any s ws hws w hT

set_option maxHeartbeats 2000000 in
set_option maxRecDepth 100000 in
theorem compress_any (s : St) (b : ByteArray) (hb : b.size = 64) (w : World) (hT : Tab w) :
    Calls Tryd.prog 61 #[.agg (arr s.ws), .string b] w fun e w' => e = .returned (.agg (arr (compress s b.data.toList).ws)) ∧ Below w.heap.size w w' := by
  have HL := Lib.hid hb
  clear hb
  have HT := Lib.hid hT
  clear hT
  go_enter Tryd.func61, Tryd.ntmps61
  go_upto_region 1 with fail
  have hb0 : Blk ((w.alloc (.cells (arr s.ws) 68)).alloc (.cells #[Value.int IntKind.u32 0, Value.int IntKind.u32 0, Value.int IntKind.u32 0, Value.int IntKind.u32 0, Value.int IntKind.u32 0, Value.int IntKind.u32 0, Value.int IntKind.u32 0, Value.int IntKind.u32 0] 68)) w.heap.size 68 (arr s.ws) := (Blk.new w _ _).alloc _
  have hb1 : Blk ((w.alloc (.cells (arr s.ws) 68)).alloc (.cells #[Value.int IntKind.u32 0, Value.int IntKind.u32 0, Value.int IntKind.u32 0, Value.int IntKind.u32 0, Value.int IntKind.u32 0, Value.int IntKind.u32 0, Value.int IntKind.u32 0, Value.int IntKind.u32 0] 68)) (w.heap.size + 1) 68 (part [] 8) := by rw [gap8]; exact heap_alloc2_new _ _ _
  have hbel : Below w.heap.size w ((w.alloc (.cells (arr s.ws) 68)).alloc (.cells #[Value.int IntKind.u32 0, Value.int IntKind.u32 0, Value.int IntKind.u32 0, Value.int IntKind.u32 0, Value.int IntKind.u32 0, Value.int IntKind.u32 0, Value.int IntKind.u32 0, Value.int IntKind.u32 0] 68)) := ((Below.refl _ _).alloc (Nat.le_refl _) _).alloc (by simp) _
  generalize (w.alloc (.cells (arr s.ws) 68)).alloc (.cells #[Value.int IntKind.u32 0, Value.int IntKind.u32 0, Value.int IntKind.u32 0, Value.int IntKind.u32 0, Value.int IntKind.u32 0, Value.int IntKind.u32 0, Value.int IntKind.u32 0, Value.int IntKind.u32 0] 68) = wa at *
  have HTa := Lib.hid (HT.out.below hbel HT.out.lt)
  have H0 := Lib.hid hb0
  have H1 := Lib.hid hb1
  have H3 := Lib.hid hbel
  clear hb0 hb1 hbel
  have e0 : wa.cell? ⟨w.heap.size, 0, none⟩ = some (.int .u32 (U s.a)) := H0.out.cell 0
  have e1 : wa.cell? ⟨w.heap.size, 1, none⟩ = some (.int .u32 (U s.b)) := H0.out.cell 1
  have e2 : wa.cell? ⟨w.heap.size, 2, none⟩ = some (.int .u32 (U s.c)) := H0.out.cell 2
  have e3 : wa.cell? ⟨w.heap.size, 3, none⟩ = some (.int .u32 (U s.d)) := H0.out.cell 3
  have e4 : wa.cell? ⟨w.heap.size, 4, none⟩ = some (.int .u32 (U s.e)) := H0.out.cell 4
  have e5 : wa.cell? ⟨w.heap.size, 5, none⟩ = some (.int .u32 (U s.f)) := H0.out.cell 5
  have e6 : wa.cell? ⟨w.heap.size, 6, none⟩ = some (.int .u32 (U s.g)) := H0.out.cell 6
  have e7 : wa.cell? ⟨w.heap.size, 7, none⟩ = some (.int .u32 (U s.h)) := H0.out.cell 7
  have hz : w.heap.size + 1 + 1 ≤ wa.heap.size := H1.out.lt
  have hg : 3 < w.heap.size + 1 + 1 := by have := HT.out.lt; omega
  go_cut [5] (fun v wc => ∃ X : Nat, v = .pointer (some ⟨X, 0, none⟩) ∧ w.heap.size + 1 + 1 ≤ X ∧ At8 wc X (rounds (sched b.data.toList 48) 64 s) ∧ Hid (Below (w.heap.size + 1 + 1) wa wc))
  case first =>
    go_region_held3 (fun w' => w'.cell? ⟨w.heap.size, 0, none⟩ = some (.int .u32 (U s.a)) ∧ w'.cell? ⟨w.heap.size, 1, none⟩ = some (.int .u32 (U s.b)) ∧ w'.cell? ⟨w.heap.size, 2, none⟩ = some (.int .u32 (U s.c)) ∧ w'.cell? ⟨w.heap.size, 3, none⟩ = some (.int .u32 (U s.d)) ∧ w'.cell? ⟨w.heap.size, 4, none⟩ = some (.int .u32 (U s.e)) ∧ w'.cell? ⟨w.heap.size, 5, none⟩ = some (.int .u32 (U s.f)) ∧ w'.cell? ⟨w.heap.size, 6, none⟩ = some (.int .u32 (U s.g)) ∧ w'.cell? ⟨w.heap.size, 7, none⟩ = some (.int .u32 (U s.h)) ∧ Hid (Below (w.heap.size + 1 + 1) wa w')) ((first | (with_reducible exact Eight.drew H0 (by omega)) | (with_reducible exact Eight.first H0 (by omega) hz _) | (with_reducible exact Hid.out (by assumption)) | (with_reducible assumption) | (with_reducible exact Eight.alloc H0 (by omega) hz (by assumption) _) | (with_reducible exact Eight.alloc H0 (by omega) hz (Hid.out (by assumption)) _) | ((repeat (with_reducible refine Eight.setc H0 (by omega) ?_ (by first | exact hz | exact Eight.big hz (by assumption) | exact Eight.big hz (Hid.out (by assumption))) _)); first | (with_reducible exact Hid.out (by assumption)) | (with_reducible assumption)))) (first
      | (go_at_call 68; refine (schedule_any b _ HL.out).mono ?_; rintro e w1 ⟨rfl, hb1⟩; have HS1 := Lib.hid (Eight.call H0 (by omega) hz (by assumption) hb1); obtain ⟨hc, hf⟩ := bcell hb1; (try (have hz1 : wa.heap.size < w1.heap.size := by (have hq := hb1.size; simp at hq; omega))); clear hb1)
      | (go_at_call 67; refine (mix_lit s (sched b.data.toList 48) (sched_length _ _) _ (Eight.tab HTa hg (by assumption))).mono ?_; rintro e w1 ⟨rfl, hb1⟩; have HS1 := Lib.hid (Eight.call H0 (by omega) hz (by assumption) hb1); obtain ⟨hc, hf⟩ := bcell hb1; (try (have hz1 : wa.heap.size < w1.heap.size := by (have hq := hb1.size; simp at hq; omega))); clear hb1))
    all_goals
      go_wp2_with fail
      go_meet
      refine ⟨_, rfl, ?_, ?_, ?_⟩
      · first | (with_reducible exact hz) | (with_reducible exact Eight.big hz (by assumption)) | (with_reducible exact Eight.big hz (Hid.out (by assumption)))
      · unfold At8
        go_simp
      · first | (with_reducible exact Eight.last (by assumption)) | (with_reducible exact Eight.last (Hid.out (by assumption)))
  case rest =>
    clear e0 e1 e2 e3 e4 e5 e6 e7
    obtain ⟨X, rfl, hX, hat, hbw⟩ := hcut
    obtain ⟨R, eR⟩ : ∃ R, R = rounds (sched b.data.toList 48) 64 s := ⟨_, rfl⟩
    rw [← eR] at hat
    have ER := Lib.hid eR
    have HAT := Lib.hid hat
    have H0c := Lib.hid (H0.out.below hbw.out (by omega))
    have H1c := Lib.hid (H1.out.below hbw.out (by omega))
    have H3c := Lib.hid (H3.out.trans (hbw.out.mono (by omega)))
    have hXlt := Lib.hid (block_lt_of_cell hat.1)
    clear hat hbw eR
    go_wp2_with fail
    go_loopw [11] (fun i wr => ∃ k : Nat, k ≤ 8 ∧ i = .int .i64 k ∧ Blk wr w.heap.size 68 (arr (addP s R k)) ∧ At8 wr X R ∧ Blk wr (w.heap.size + 1) 68 (part [] 8) ∧ Below w.heap.size w wr) (fun i _ => 8 - (intOf i).toNat)
    case atStart => exact ⟨0, by omega, rfl, H0c.out, HAT.out, H1c.out, H3c.out⟩
    case round =>
      clear H0c H1c H3c HAT
      obtain ⟨k, hk, rfl, hb0, hat, hb1, hbel⟩ := hrel
      have G0 := Lib.hid hb0
      have G1 := Lib.hid hb1
      have G2 := Lib.hid hat
      have G3 := Lib.hid hbel
      by_cases hlt : k < 8
      · have c0 : wr.cell? ⟨w.heap.size, k, none⟩ = some (.int .u32 (U (gW s.ws k))) := by rw [hb0.cell, arr_get _ _ (by rw [addP_length]; exact hlt), addP_get s R k hlt]
        have c1 : wr.cell? ⟨X, k, none⟩ = some (.int .u32 (U (gW R.ws k))) := hat.get k hlt
        have hfro := hb0.frozen k
        have hki : (k : Int) < 8 := by omega
        clear hb0 hb1 hat hbel
        go_wp2_with fail
        go_still_tail 8, (by kernel_rfl)
        go_wp2_with fail
        go_roundw
        case rel =>
          refine ⟨k + 1, by omega, by go_num, ?_, ?_, ?_, ?_⟩
          · have h2 := (G0.out.drew).set_ k (.int .u32 (U (gW s.ws k + gW R.ws k)))
            rw [addP_set s R k hlt] at h2
            exact h2
          · exact At8.far (p := ⟨w.heap.size, k, none⟩) G2.out (by simp; omega) _
          · exact (G1.out.drew).far (by simp) _
          · exact (G3.out.drew).setCell (by simp) _
        case measure => simp [intOf]; omega
      · obtain rfl : k = 8 := by omega
        clear hb0 hb1 hat hbel
        rw [addP_all] at G0
        go_wp2_with (first
          | (refine wpList_load_row rfl 68 (.tmp 2) rfl _ rfl 68 _ (0, 0) _ G0.out Tryd.underlying68 rfl cells8 ?_)
          | (refine wpList_store_row rfl 68 (.tmp 4) (.tmp 23) rfl (w.heap.size + 1) (arr (s.add R).ws) rfl rfl 68 _ G1.out cells8 rfl (arr_one _) ?_))
        exact ret_agg rfl (w.heap.size + 1) _ _ _ rfl (G1.out.row _) rfl Tryd.underlying68 rfl cells8 ⟨by unfold compress; rw [← ER.out], below_setRow G3.out (by omega) _⟩

end Go.Proofs.YtncimfiiknbcfaaDoor.Sp
