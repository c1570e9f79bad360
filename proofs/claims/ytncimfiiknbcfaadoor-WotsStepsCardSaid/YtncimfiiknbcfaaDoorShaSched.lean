/- Package sha: the message schedule. -/
import Derived.Test.YtncimfiiknbcfaaDoorShaPadW
import Derived.StillTailTactics
import Derived.Deep.RegionHeld3
namespace Go.Proofs.YtncimfiiknbcfaaDoor.Sp
open Go Go.RowKit

attribute [local go_sem] add_U addm_U

theorem cells64 : (Tryd.prog.info? 84).map (·.size) = some 64 := by kernel_rfl
theorem gap64 : #[Value.int IntKind.u32 0, Value.int IntKind.u32 0, Value.int IntKind.u32 0, Value.int IntKind.u32 0, Value.int IntKind.u32 0, Value.int IntKind.u32 0, Value.int IntKind.u32 0, Value.int IntKind.u32 0, Value.int IntKind.u32 0, Value.int IntKind.u32 0, Value.int IntKind.u32 0, Value.int IntKind.u32 0, Value.int IntKind.u32 0, Value.int IntKind.u32 0, Value.int IntKind.u32 0, Value.int IntKind.u32 0, Value.int IntKind.u32 0, Value.int IntKind.u32 0, Value.int IntKind.u32 0, Value.int IntKind.u32 0, Value.int IntKind.u32 0, Value.int IntKind.u32 0, Value.int IntKind.u32 0, Value.int IntKind.u32 0, Value.int IntKind.u32 0, Value.int IntKind.u32 0, Value.int IntKind.u32 0, Value.int IntKind.u32 0, Value.int IntKind.u32 0, Value.int IntKind.u32 0, Value.int IntKind.u32 0, Value.int IntKind.u32 0, Value.int IntKind.u32 0, Value.int IntKind.u32 0, Value.int IntKind.u32 0, Value.int IntKind.u32 0, Value.int IntKind.u32 0, Value.int IntKind.u32 0, Value.int IntKind.u32 0, Value.int IntKind.u32 0, Value.int IntKind.u32 0, Value.int IntKind.u32 0, Value.int IntKind.u32 0, Value.int IntKind.u32 0, Value.int IntKind.u32 0, Value.int IntKind.u32 0, Value.int IntKind.u32 0, Value.int IntKind.u32 0, Value.int IntKind.u32 0, Value.int IntKind.u32 0, Value.int IntKind.u32 0, Value.int IntKind.u32 0, Value.int IntKind.u32 0, Value.int IntKind.u32 0, Value.int IntKind.u32 0, Value.int IntKind.u32 0, Value.int IntKind.u32 0, Value.int IntKind.u32 0, Value.int IntKind.u32 0, Value.int IntKind.u32 0, Value.int IntKind.u32 0, Value.int IntKind.u32 0, Value.int IntKind.u32 0, Value.int IntKind.u32 0] = part [] 64 := by kernel_rfl
theorem sched_length (l : List UInt8) (n : Nat) : (sched l n).length = 16 + n := by
  induction n with
  | zero => simp [sched, words_length]
  | succ n ih => simp [sched, ih]; omega

theorem at_diff (k d : Nat) (h : d ≤ k) (h2 : k < 64) : IntKind.i64.wrap ((k : Int) - (d : Int)) = (k : Int) - (d : Int) ∧ 0 ≤ (k : Int) - (d : Int) ∧ (k : Int) - (d : Int) < 64 ∧ ((k : Int) - (d : Int)).toNat = k - d :=
  ⟨by rw [IntKind.wrap_i64]; omega, by omega, by omega, by omega⟩

set_option maxRecDepth 100000 in
set_option maxHeartbeats 1000000 in
theorem schedule_any (s : ByteArray) (w : World) (hs : s.size = 64) :
    Calls Tryd.prog 68 #[.string s] w fun e w' => e = .returned (.agg (arr (sched s.data.toList 48))) ∧ Below w.heap.size w w' := by
  have HS := Lib.hid hs
  have hs1 : 64 ≤ s.size := by omega
  have hs2 : s.size ≤ 64 := by omega
  clear hs
  go_enter Tryd.func68, Tryd.ntmps68
  go_wp2_with fail
  go_loopw [6] (fun i wr => ∃ k : Nat, k ≤ 16 ∧ i = .int .i64 k ∧ Blk wr w.heap.size 84 (part [] 64) ∧ Blk wr (w.heap.size + 1) 84 (part (words s.data.toList k) 64) ∧ Below w.heap.size w wr) (fun i _ => 16 - (intOf i).toNat)
  case atStart =>
    exact ⟨0, by omega, rfl, by rw [gap64]; exact (Blk.new w _ _).alloc _, by rw [gap64]; exact heap_alloc2_new _ _ _, ((Below.refl _ _).alloc (Nat.le_refl _) _).alloc (by simp) _⟩
  case round =>
    obtain ⟨k, hk, rfl, hb1, hb2, hbel⟩ := hrel
    have H1 := Lib.hid hb1
    have H2 := Lib.hid hb2
    have H3 := Lib.hid hbel
    by_cases hlt : k < 16
    · have hcell : wr.cell? ⟨w.heap.size + 1, k, none⟩ = some (.int .u32 (U (gW (words s.data.toList k) k))) := by
        rw [hb2.cell, part_get _ _ _ (by omega) (by rw [words_length]; omega)]
      have hfro := hb2.frozen k
      clear hb1 hb2 hbel
      go_wp2_with fail
      refine (word_any s k (by omega) (by omega) _).mono ?_
      rintro e w1 ⟨rfl, n, rfl⟩
      go_wp2_with fail
      go_roundw
      case rel =>
        refine ⟨k + 1, by omega, by go_num, ?_, ?_, ?_⟩
        · exact (H1.out.drewN n).far (by simp) _
        · have h2 := (H2.out.drewN n).set_ k (.int .u32 (U (word s.data.toList k)))
          have e := part_set (words s.data.toList k) (word s.data.toList k) 64 (by rw [words_length]; omega)
          rw [words_length] at e
          rw [e] at h2
          rw [words_succ]; exact h2
        · exact (below_drewN H3.out n).setCell (by simp) _
      case measure => simp [intOf]; omega
    · obtain rfl : k = 16 := by omega
      simp only [Int.cast_ofNat_Int]
      clear hbel hb1 hb2
      obtain ⟨wo, ewo⟩ : ∃ wo : World, wo = wr := ⟨_, rfl⟩
      subst ewo
      go_wp2_with fail
      go_loopw [5] (fun i wx => ∃ k : Nat, 16 ≤ k ∧ k ≤ 64 ∧ i = .int .i64 k ∧ Blk wx w.heap.size 84 (part [] 64) ∧ Blk wx (w.heap.size + 1) 84 (part (sched s.data.toList (k - 16)) 64) ∧ Below w.heap.size w wx) (fun i _ => 64 - (intOf i).toNat)
      case atStart => exact ⟨16, by omega, by omega, rfl, H1.out, H2.out, H3.out⟩
      case round =>
        clear H1 H2 H3
        obtain ⟨k, hk0, hk, rfl, hb1, hb2, hbel⟩ := hrel
        have H1 := Lib.hid hb1
        have H2 := Lib.hid hb2
        have H3 := Lib.hid hbel
        by_cases hlt : k < 64
        · obtain ⟨S, eS⟩ : ∃ S, S = sched s.data.toList (k - 16) := ⟨_, rfl⟩
          have ES := Lib.hid eS
          have hSl : S.length = k := by rw [eS, sched_length]; omega
          have HSl := Lib.hid hSl
          have hcell : ∀ j, j < 64 → wr.cell? ⟨w.heap.size + 1, j, none⟩ = some (.int .u32 (U (gW S j))) := fun j hj => by
            rw [hb2.cell, ← eS, part_get _ _ _ hj (by omega)]
          have c0 := hcell k (by omega)
          have c2 := hcell (k - 2) (by omega)
          have c7 := hcell (k - 7) (by omega)
          have c15 := hcell (k - 15) (by omega)
          have c16 := hcell (k - 16) (by omega)
          have hfro := hb2.frozen k
          clear hcell hb1 hb2 hbel eS hSl
          obtain ⟨a2, b2, d2, e2⟩ := at_diff k 2 (by omega) hlt
          obtain ⟨a7, b7, d7, e7⟩ := at_diff k 7 (by omega) hlt
          obtain ⟨a15, b15, d15, e15⟩ := at_diff k 15 (by omega) hlt
          obtain ⟨a16, b16, d16, e16⟩ := at_diff k 16 (by omega) hlt
          simp only [Int.cast_ofNat_Int] at a2 b2 d2 e2 a7 b7 d7 e7 a15 b15 d15 e15 a16 b16 d16 e16
          have hki : (k : Int) < 64 := by omega
          have l2 : (2 : Int) ≤ (k : Int) := by omega
          have l7 : (7 : Int) ≤ (k : Int) := by omega
          have l15 : (15 : Int) ≤ (k : Int) := by omega
          have l16 : (16 : Int) ≤ (k : Int) := by omega
          go_wp2_with fail
          go_still_tail 23, (by kernel_rfl)
          still_call ((smallSigma1_any (gW S (k - 2)) _).mono fun _ _ h => ⟨h.1, h.2.symm⟩)
          repeat still_step
          still_call ((smallSigma0_any (gW S (k - 15)) _).mono fun _ _ h => ⟨h.1, h.2.symm⟩)
          repeat still_step
          refine wpStill_nil ?_
          clear c2 c7 c15 c16 a2 b2 d2 e2 a7 b7 d7 e7 a15 b15 d15 e15 a16 b16 d16 e16
          go_wp2_with fail
          go_roundw
          case rel =>
            refine ⟨k + 1, by omega, by omega, by go_num, ?_, ?_, ?_⟩
            · exact (H1.out.drew).far (by simp) _
            · have h2 := (H2.out.drew).set_ k (.int .u32 (U (next S k)))
              rw [← ES.out] at h2
              have e := part_set S (next S k) 64 (by rw [HSl.out]; exact hlt)
              rw [HSl.out] at e
              rw [e] at h2
              have e3 : sched s.data.toList (k + 1 - 16) = S ++ [next S k] := by
                rw [ES.out, show k + 1 - 16 = (k - 16) + 1 by omega, sched, show 16 + (k - 16) = k by omega]
              rw [e3]; exact h2
            · exact (H3.out.drew).setCell (by simp) _
          case measure => simp [intOf]; omega
        · obtain rfl : k = 64 := by omega
          clear hbel hb1 hb2
          rw [part_full _ _ (by rw [sched_length])] at H2
          go_wp2_with (first
            | (refine wpList_load_row rfl 84 (.tmp 3) rfl _ rfl 84 _ (0, 0) _ H2.out Tryd.underlying84 rfl (by rw [arr_size, sched_length]; exact cells64) ?_)
            | (refine wpList_store_row rfl 84 (.tmp 2) (.tmp 42) rfl w.heap.size (arr (sched s.data.toList 48)) rfl rfl 84 _ H1.out (by rw [arr_size, sched_length]; exact cells64) (by rw [arr_size, sched_length]; rfl) (arr_one _) ?_))
          exact ret_agg rfl w.heap.size _ _ _ rfl (H1.out.row _) rfl Tryd.underlying84 rfl (by rw [arr_size, sched_length]; exact cells64) ⟨rfl, below_setRow H3.out (Nat.le_refl _) _⟩

end Go.Proofs.YtncimfiiknbcfaaDoor.Sp
