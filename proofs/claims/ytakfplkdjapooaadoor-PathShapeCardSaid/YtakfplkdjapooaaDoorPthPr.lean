/- Package path's own Print. -/
import Derived.Test.YtakfplkdjapooaaDoorPthPrn
import Derived.ChangeKeysEq
namespace Go.Proofs.YtakfplkdjapooaaDoor.Sp
open Go Go.RowKit


theorem infoEl : (Tryd.prog.info? 44).map (fun i => i.size) = some 2 := by kernel_rfl
theorem cellsEl : Tryd.prog.cellsOf 44 = 2 := by kernel_rfl
theorem info_el : ∃ i0, Tryd.prog.info? 44 = some i0 := by
  have h := infoEl
  cases h2 : Tryd.prog.info? 44 with
  | none => rw [h2] at h; cases h
  | some i => exact ⟨i, rfl⟩
/-- Elements whose first one is something are unlike those that are nothing. -/
theorem lead_no (r : Int) (x1 x2 x3 x4 x5 x6 x7 x8 x9 : Value) (y1 y2 y3 y4 y5 y6 y7 y8 y9 : Value) (hr : (r == 0) = false) (w : World) :
    (Op.equalIn 10000 46 (.agg #[.int .i64 r, x1, x2, x3, x4, x5, x6, x7, x8, x9]) (.agg #[.int .i64 0, y1, y2, y3, y4, y5, y6, y7, y8, y9])).run Tryd.prog w = .ok false w := by
  obtain ⟨i0, hi0⟩ := info_el
  rw [run_equalIn_array w _ _ _ Tryd.underlying46 hi0, cellsEl]
  simp [Op.eqItems, List.range, List.range.loop, go_sem, part, Tryd.isAgg44, Tryd.sizeOf44]
  intro h
  rw [beq_eq_false_iff_ne] at hr
  exact absurd h hr
theorem lead_yes (w : World) : (Op.equalIn 10000 46 (.agg #[.int .i64 0, .string ⟨#[]⟩, .int .i64 0, .string ⟨#[]⟩, .int .i64 0, .string ⟨#[]⟩, .int .i64 0, .string ⟨#[]⟩, .int .i64 0, .string ⟨#[]⟩]) (.agg #[.int .i64 0, .string ⟨#[]⟩, .int .i64 0, .string ⟨#[]⟩, .int .i64 0, .string ⟨#[]⟩, .int .i64 0, .string ⟨#[]⟩, .int .i64 0, .string ⟨#[]⟩])).run Tryd.prog w = .ok true w := by
  obtain ⟨i0, hi0⟩ := info_el
  rw [run_equalIn_array w _ _ _ Tryd.underlying46 hi0, cellsEl]
  simp [Op.eqItems, List.range, List.range.loop, go_sem, part, Tryd.isAgg44, Tryd.sizeOf44]
theorem cells10 {w : World} {g : Nat} {t : TypeId} {v0 v1 v2 v3 v4 v5 v6 v7 v8 v9 : Value} (h : Blk w g t #[v0, v1, v2, v3, v4, v5, v6, v7, v8, v9]) :
    w.cell? ⟨g, 0, none⟩ = some v0 ∧ w.cell? ⟨g, 1, none⟩ = some v1 ∧ w.cell? ⟨g, 2, none⟩ = some v2 ∧ w.cell? ⟨g, 3, none⟩ = some v3 ∧ w.cell? ⟨g, 4, none⟩ = some v4 ∧ w.cell? ⟨g, 5, none⟩ = some v5 ∧ w.cell? ⟨g, 6, none⟩ = some v6 ∧ w.cell? ⟨g, 7, none⟩ = some v7 ∧ w.cell? ⟨g, 8, none⟩ = some v8 ∧ w.cell? ⟨g, 9, none⟩ = some v9 :=
  ⟨h.cell 0, h.cell 1, h.cell 2, h.cell 3, h.cell 4, h.cell 5, h.cell 6, h.cell 7, h.cell 8, h.cell 9⟩
theorem els_lit1 (k : Nat) (h1 : 1 ≤ k) (h8 : k ≤ 8) : ∃ (r0 : Int) (S0 : ByteArray) (r1 : Int) (S1 : ByteArray) (r2 : Int) (S2 : ByteArray) (r3 : Int) (S3 : ByteArray) (r4 : Int) (S4 : ByteArray),
    elsV k = #[.int .i64 r0, .string S0, .int .i64 r1, .string S1, .int .i64 r2, .string S2, .int .i64 r3, .string S3, .int .i64 r4, .string S4] ∧ (r0 == 0) = false := by
  match k, h1, h8 with
  | 1, _, _ | 2, _, _ | 3, _, _ | 4, _, _ | 5, _, _ | 6, _, _ | 7, _, _ | 8, _, _ => exact ⟨_, _, _, _, _, _, _, _, _, _, rfl, rfl⟩

set_option maxHeartbeats 2000000 in
theorem pr_ok (k a b : Nat) (hv : Valid k a b) (w : World) (hT : Tens w) :
    Calls Tryd.prog 10 #[pathV k a b] w fun e w' => e = .returned (.tuple #[.string ⟨(ptext k a b).toArray⟩, .int .i64 0]) ∧ Below w.heap.size w w' := by
  obtain ⟨h1, h8, ha, hb, htwo⟩ := hv
  have HT := Lib.hid hT
  clear hT
  have HAL := Lib.hid (below_more (Below.refl w.heap.size w) (.cells #[.int .i64 (k : Int), .int .u64 (a : Int), .int .u64 (b : Int)] 24))
  have HPB := Lib.hid (Blk.new w 24 #[.int .i64 (k : Int), .int .u64 (a : Int), .int .u64 (b : Int)])
  obtain ⟨r0, S0, r1, S1, r2, S2, r3, S3, r4, S4, hV, hr0⟩ := els_lit1 k h1 h8
  have HE := Lib.hid (elements_any k h1 h8)
  have HC := Lib.hid (contain_B k h1 h8)
  have HP := Lib.hid (prn_any k a b h1 h8 ha hb)
  have hj := (join_txts k a b h1 h8).1
  rw [hV] at HE HC HP
  rw [hj] at HP
  have hlead := fun y1 y2 y3 y4 y5 y6 y7 y8 y9 W => lead_no r0 (.string S0) (.int .i64 r1) (.string S1) (.int .i64 r2) (.string S2) (.int .i64 r3) (.string S3) (.int .i64 r4) (.string S4) y1 y2 y3 y4 y5 y6 y7 y8 y9 hr0 W
  obtain ⟨R, hR⟩ : ∃ R : ByteArray, ⟨(ptext k a b).toArray⟩ = R := ⟨_, rfl⟩
  rw [hR] at HP ⊢
  clear hj hV hr0 hR h1 h8
  unfold pathV
  go_enter Tryd.func10, Tryd.ntmps10
  go_wp2_with fail
  refine (HE.out _).mono ?_
  rintro e w1 ⟨rfl, hb1⟩
  have HB1 := Lib.hid (HAL.out.trans (hb1.mono HAL.out.size))
  have HP1 := Lib.hid (HPB.out.below hb1 HPB.out.lt)
  have hlt := HP1.out.lt
  obtain ⟨p0, p1, p2⟩ : w1.cell? ⟨w.heap.size, 0, none⟩ = some (.int .i64 (k : Int)) ∧ w1.cell? ⟨w.heap.size, 1, none⟩ = some (.int .u64 (a : Int)) ∧ w1.cell? ⟨w.heap.size, 2, none⟩ = some (.int .u64 (b : Int)) := ⟨HP1.out.cell 0, HP1.out.cell 1, HP1.out.cell 2⟩
  clear hb1
  have HB2 := Lib.hid (below_more HB1.out (.cells #[.int .i64 r0, .string S0, .int .i64 r1, .string S1, .int .i64 r2, .string S2, .int .i64 r3, .string S3, .int .i64 r4, .string S4] 46))
  have HT2 := Lib.hid (tens_below HT.out HB2.out)
  by_cases hb0 : b = 0
  · subst hb0
    go_wp2_with fail
    refine (HP.out _ HT2.out).mono ?_
    rintro e w3 ⟨rfl, hb3⟩
    have HB3 := Lib.hid (HB2.out.trans (hb3.mono HB2.out.size))
    clear hb3
    go_wp2_with fail
    go_ret2
    exact ⟨rfl, HB3.out⟩
  · have ht := htwo.resolve_right hb0
    have hbn : ((b : Int) != 0) = true := by simp only [bne_iff_ne, ne_eq]; omega
    rw [ht] at HC
    go_wp2_with fail
    refine (HC.out _).mono ?_
    rintro e w3 ⟨rfl, hb3⟩
    have HB3 := Lib.hid (HB2.out.trans (hb3.mono HB2.out.size))
    have HT3 := Lib.hid (tens_below HT.out HB3.out)
    have HP3 := Lib.hid ((HP1.out.alloc (.cells #[.int .i64 r0, .string S0, .int .i64 r1, .string S1, .int .i64 r2, .string S2, .int .i64 r3, .string S3, .int .i64 r4, .string S4] 46)).below hb3 (HP1.out.alloc _).lt)
    have HV3 := Lib.hid ((Blk.new w1 46 #[.int .i64 r0, .string S0, .int .i64 r1, .string S1, .int .i64 r2, .string S2, .int .i64 r3, .string S3, .int .i64 r4, .string S4]).below hb3 (Blk.new w1 46 #[.int .i64 r0, .string S0, .int .i64 r1, .string S1, .int .i64 r2, .string S2, .int .i64 r3, .string S3, .int .i64 r4, .string S4]).lt)
    have hlt3 := HV3.out.lt
    have hlt4 := HP3.out.lt
    clear hb3 p0 p1 p2 hlt hlead
    obtain ⟨p0, p1, p2⟩ : w3.cell? ⟨w.heap.size, 0, none⟩ = some (.int .i64 (k : Int)) ∧ w3.cell? ⟨w.heap.size, 1, none⟩ = some (.int .u64 (a : Int)) ∧ w3.cell? ⟨w.heap.size, 2, none⟩ = some (.int .u64 (b : Int)) := ⟨HP3.out.cell 0, HP3.out.cell 1, HP3.out.cell 2⟩
    obtain ⟨e0, e1, e2, e3, e4, e5, e6, e7, e8, e9⟩ := cells10 HV3.out
    go_wp2_with fail
    refine (HP.out _ HT3.out).mono ?_
    rintro e w4 ⟨rfl, hb4⟩
    have HB4 := Lib.hid (HB3.out.trans (hb4.mono HB3.out.size))
    clear hb4
    go_wp2_with fail
    go_ret2
    exact ⟨rfl, HB4.out⟩

theorem elements_no_lit (K : Int) (h : ¬ (1 ≤ K ∧ K ≤ 8)) (w : World) :
    Calls Tryd.prog 17 #[.int .i64 K] w fun e w' => e = .returned (.agg #[.int .i64 0, .string ⟨#[]⟩, .int .i64 0, .string ⟨#[]⟩, .int .i64 0, .string ⟨#[]⟩, .int .i64 0, .string ⟨#[]⟩, .int .i64 0, .string ⟨#[]⟩]) ∧ Below w.heap.size w w' := elements_no K h w

/-- Where the kind is none, or the kind has no second number. -/
theorem pr_no (K : Int) (a b : Nat) (h : ¬ (1 ≤ K ∧ K ≤ 8) ∨ ∃ k : Nat, K = (k : Int) ∧ 1 ≤ k ∧ k ≤ 8 ∧ two k = false ∧ b ≠ 0) (w : World) :
    Calls Tryd.prog 10 #[pathV K a b] w fun e w' => e = .returned (.tuple #[.string .empty, .int .i64 40]) ∧ Below w.heap.size w w' := by
  have HAL := Lib.hid (below_more (Below.refl w.heap.size w) (.cells #[.int .i64 K, .int .u64 (a : Int), .int .u64 (b : Int)] 24))
  have HPB := Lib.hid (Blk.new w 24 #[.int .i64 K, .int .u64 (a : Int), .int .u64 (b : Int)])
  unfold pathV
  rcases h with h | ⟨k, rfl, h1, h8, ht, hb⟩
  · have HE := Lib.hid (elements_no_lit K h)
    have hlead := lead_yes
    clear h
    go_enter Tryd.func10, Tryd.ntmps10
    go_wp2_with fail
    refine (HE.out _).mono ?_
    rintro e w1 ⟨rfl, hb1⟩
    have HB1 := Lib.hid (below_more (HAL.out.trans (hb1.mono HAL.out.size)) (.cells #[.int .i64 0, .string ⟨#[]⟩, .int .i64 0, .string ⟨#[]⟩, .int .i64 0, .string ⟨#[]⟩, .int .i64 0, .string ⟨#[]⟩, .int .i64 0, .string ⟨#[]⟩] 46))
    clear hb1
    go_wp2_with fail
    go_ret2
    exact ⟨rfl, HB1.out⟩
  · obtain ⟨r0, S0, r1, S1, r2, S2, r3, S3, r4, S4, hV, hr0⟩ := els_lit1 k h1 h8
    have HE := Lib.hid (elements_any k h1 h8)
    have HC := Lib.hid (contain_B k h1 h8)
    rw [hV] at HE HC
    rw [ht] at HC
    have hlead := fun y1 y2 y3 y4 y5 y6 y7 y8 y9 W => lead_no r0 (.string S0) (.int .i64 r1) (.string S1) (.int .i64 r2) (.string S2) (.int .i64 r3) (.string S3) (.int .i64 r4) (.string S4) y1 y2 y3 y4 y5 y6 y7 y8 y9 hr0 W
    have hbn : ((b : Int) != 0) = true := by simp only [bne_iff_ne, ne_eq]; omega
    clear hV hr0 h1 h8 ht
    go_enter Tryd.func10, Tryd.ntmps10
    go_wp2_with fail
    refine (HE.out _).mono ?_
    rintro e w1 ⟨rfl, hb1⟩
    have HB1 := Lib.hid (below_more (HAL.out.trans (hb1.mono HAL.out.size)) (.cells #[.int .i64 r0, .string S0, .int .i64 r1, .string S1, .int .i64 r2, .string S2, .int .i64 r3, .string S3, .int .i64 r4, .string S4] 46))
    have HP1 := Lib.hid (HPB.out.below hb1 HPB.out.lt)
    have hlt := HP1.out.lt
    obtain ⟨p0, p1, p2⟩ : w1.cell? ⟨w.heap.size, 0, none⟩ = some (.int .i64 (k : Int)) ∧ w1.cell? ⟨w.heap.size, 1, none⟩ = some (.int .u64 (a : Int)) ∧ w1.cell? ⟨w.heap.size, 2, none⟩ = some (.int .u64 (b : Int)) := ⟨HP1.out.cell 0, HP1.out.cell 1, HP1.out.cell 2⟩
    clear hb1 hb
    go_wp2_with fail
    refine (HC.out _).mono ?_
    rintro e w3 ⟨rfl, hb3⟩
    have HB3 := Lib.hid (HB1.out.trans (hb3.mono HB1.out.size))
    clear hb3
    go_wp2_with fail
    go_ret2
    exact ⟨rfl, HB3.out⟩
end Go.Proofs.YtakfplkdjapooaaDoor.Sp
