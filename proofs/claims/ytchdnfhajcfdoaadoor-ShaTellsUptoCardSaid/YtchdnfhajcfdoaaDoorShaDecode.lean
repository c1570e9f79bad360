/- Package sha: the words of a text, as an array by value. -/
import Derived.Test.YtchdnfhajcfdoaaDoorShaBlk
namespace Go.Proofs.YtchdnfhajcfdoaaDoor.Sp
open Go Go.RowKit

theorem words_succ (l : List UInt8) (k : Nat) : words l (k + 1) = words l k ++ [word l k] := by simp [words, List.range_succ]
theorem words_length (l : List UInt8) (k : Nat) : (words l k).length = k := by simp [words]
theorem of_ws (l : List W) (h : l.length = 8) : (St.of l).ws = l := by
  match l, h with
  | [a, b, c, d, e, f, g, i], _ => rfl
theorem gap8 : #[Value.int IntKind.u32 0, Value.int IntKind.u32 0, Value.int IntKind.u32 0, Value.int IntKind.u32 0, Value.int IntKind.u32 0, Value.int IntKind.u32 0, Value.int IntKind.u32 0, Value.int IntKind.u32 0] = part [] 8 := by
  kernel_rfl
theorem ret_agg {P : Program} {fn : Func} {R : Ending → World → Prop} {a : Act} {w : World} {p : Tmp} {ty : TypeId} (h : fn.results = #[.cell p ty]) (g : Nat) (t : TypeId) (cs : Array Value) (d : TypeDesc)
    (hp : a.tmps.getD p undef = .pointer (some ⟨g, 0, none⟩)) (hg : Blk w g t cs) (hd0 : a.defers = [])
    (hu : P.underlying ty = some d) (hd : (match d with | .struct _ | .array _ _ => true | _ => false) = true) (hi : (P.info? ty).map (·.size) = some cs.size)
    (hR : R (.returned (.agg cs)) w) : bodyPost P fn R .ret a w :=
  bodyPost_ret (results_cell_row h _ _ g t cs (0, 0) d hp hg hu hd hi) hd0 hR

set_option maxHeartbeats 400000 in
theorem decode_any (s : ByteArray) (w : World) (hs : s.size = 32) :
    Calls Tryd.prog 32 #[.string s] w fun e w' => e = .returned (.agg (arr (Sp.decode s.data.toList).ws)) ∧ Below w.heap.size w w' := by
  have HS := Lib.hid hs
  have hs1 : 32 ≤ s.size := by omega
  have hs2 : s.size ≤ 32 := by omega
  clear hs
  go_enter Tryd.func32, Tryd.ntmps32
  go_wp2_with fail
  go_loopw [5] (fun i wr => ∃ k : Nat, k ≤ 8 ∧ i = .int .i64 k ∧ Blk wr w.heap.size 40 (part [] 8) ∧ Blk wr (w.heap.size + 1) 40 (part (words s.data.toList k) 8) ∧ Below w.heap.size w wr) (fun i _ => 8 - (intOf i).toNat)
  case atStart =>
    exact ⟨0, by omega, rfl, by rw [gap8]; exact (Blk.new w _ _).alloc _, by rw [gap8]; exact heap_alloc2_new _ _ _, ((Below.refl _ _).alloc (Nat.le_refl _) _).alloc (by simp) _⟩
  case round =>
    obtain ⟨k, hk, rfl, hb1, hb2, hbel⟩ := hrel
    have H1 := Lib.hid hb1
    have H2 := Lib.hid hb2
    have H3 := Lib.hid hbel
    by_cases hlt : k < 8
    · have hcell : wr.cell? ⟨w.heap.size + 1, k, none⟩ = some (.int .u32 (U (gW (words s.data.toList k) k))) := by
        rw [hb2.cell, part_get _ _ _ hlt (by rw [words_length]; omega)]
      have hfro := hb2.frozen k
      clear hb1 hb2 hbel
      go_wp2_with fail
      refine (word_any s k (by omega) (by omega) _).mono ?_
      rintro e w1 ⟨rfl, n, rfl⟩
      go_wp2_with fail
      go_roundw
      case rel =>
        refine ⟨k + 1, by omega, by go_num, ?_, ?_, ?_⟩
        · exact (H1.out.drewN n).far (by simp) _
        · have h2 := (H2.out.drewN n).set_ k (.int .u32 (U (word s.data.toList k)))
          have e := part_set (words s.data.toList k) (word s.data.toList k) 8 (by rw [words_length]; exact hlt)
          rw [words_length] at e
          rw [e] at h2
          rw [words_succ]; exact h2
        · exact (below_drewN H3.out n).setCell (by simp) _
      case measure => simp [intOf]; omega
    · obtain rfl : k = 8 := by omega
      clear hbel hb1 hb2
      rw [part_full _ _ (words_length _ _)] at H2
      go_wp2_with (first
        | (refine wpList_load_row rfl 40 (.tmp 3) rfl _ rfl 40 _ (0, 0) _ H2.out Tryd.underlying40 rfl cells8 ?_)
        | (refine wpList_store_row rfl 40 (.tmp 2) (.tmp 14) rfl w.heap.size (arr (words s.data.toList 8)) rfl rfl 40 _ H1.out cells8 rfl (arr_one _) ?_))
      refine ret_agg rfl w.heap.size _ _ _ rfl (H1.out.row _) rfl Tryd.underlying40 rfl cells8 ⟨?_, below_setRow H3.out (Nat.le_refl _) _⟩
      unfold Sp.decode; rw [of_ws _ (words_length _ _)]

end Go.Proofs.YtchdnfhajcfdoaaDoor.Sp
