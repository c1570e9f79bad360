/- Package trie: climb, agree, valid, vacant. -/
import Derived.Test.YtnkkckmejjcfkaaGreatDoorGzQ
import Derived.Test.YtnkkckmejjcfkaaGreatDoorGzR
import Derived.ChangeKeysEq
namespace Go.Proofs.YtnkkckmejjcfkaaGreatDoor.Sp
open Go Go.RowKit
set_option maxRecDepth 100000

theorem At.cellsp {w : World} {b : Nat} {p : ByteArray} (h : At w b 0 p) : w.rangeAt b 0 (byteVs p.data.toList) := h
theorem strs_at_p {w wr : World} {a : Option Addr} {n k : Nat} {ss : List ByteArray} (h : Strs w a n ss) (hb : Below w.heap.size w wr) (hk : k < n) :
    ∃ b off, a = some ⟨b, off, none⟩ ∧ wr.cell? ⟨b, off + k, none⟩ = some (.string (ss.getD k ByteArray.empty)) := by
  obtain ⟨b, off, rfl, hc⟩ := (h.below hb).2 (by omega)
  exact ⟨b, off, rfl, hc k hk⟩
theorem getD_mem_p (l : List ByteArray) (k : Nat) (h : k < l.length) : l.getD k .empty ∈ l := by
  rw [List.getD_eq_getElem?_getD, List.getElem?_eq_getElem h]; exact List.getElem_mem h
theorem drop_getP (l : List ByteArray) (k : Nat) (h : k < l.length) : l.drop k = l.getD k .empty :: l.drop (k + 1) := by
  rw [List.drop_eq_getElem_cons h]
  congr 1
  rw [List.getD_eq_getElem?_getD, List.getElem?_eq_getElem h]; rfl

set_option maxHeartbeats 4000000 in
theorem climb_any (h0 p : ByteArray) (l : List ByteArray) (a : Option Addr) (n c : Nat) (hp : p.size = 32) (hh : h0.size = 32) (hn : n ≤ 256) (hM : ∀ y ∈ l, y.size = 32) (w : World) (hl : Strs w a n l) (hT : Tab w) :
    Calls Tryz.prog 52 #[.string h0, keyV p, .slice a n c] w fun e w' => e = .returned (.string (upF p 0 h0 l)) ∧ Below w.heap.size w w' := by
  have hlen := hl.1
  have HL := Lib.hid hl
  have HT := Lib.hid hT
  have HM := Lib.hid hM
  have A0 := Lib.hid (At.new w 67 p)
  have HBit := Lib.hid (fun d hd w => bit_any p hp d hd w)
  have hkv : keyV p = .agg (byteVs p.data.toList).toArray := rfl
  have hL32 := len32 hp
  have hinf : (Tryz.prog.info? 67).map (·.size) = some (byteVs p.data.toList).length := info32 hp
  unfold At at A0
  rw [hkv] at HBit ⊢
  obtain ⟨L, hL⟩ : ∃ L, byteVs p.data.toList = L := ⟨_, rfl⟩
  rw [hL] at HBit hL32 hinf A0 ⊢
  clear hl hT hM hkv hL hp
  go_enter Tryz.func52, Tryz.ntmps52
  go_upto_region 2 with fail
  have B0 := Lib.hid ((Below.refl w.heap.size w).alloc (Nat.le_refl _) (.cells L.toArray 67))
  generalize w.alloc (.cells L.toArray 67) = w0 at *
  have hA0l : w.heap.size < w0.heap.size := by
    obtain ⟨u, hu⟩ : ∃ u, L[0]? = some u := ⟨_, List.getElem?_eq_getElem (by omega)⟩
    exact World.block_lt_of_cell? _ _ (A0.out 0 u hu)
  go_wp2_with fail
  go_loopw [7, 8] (fun s y wr => ∃ j : Nat, j ≤ n ∧ y = .int .i64 ((j : Int) - 1) ∧ s = .string (upF p j h0 (l.drop j)) ∧ Below w0.heap.size w0 wr) (fun _ y _ => (intOf y + 1).toNat)
  case atStart => exact ⟨n, by omega, by go_num, by rw [List.drop_of_length_le (by omega)]; rfl, Below.refl _ _⟩
  case round =>
    obtain ⟨j, hj, rfl, rfl, hbel⟩ := hrel
    have HB := Lib.hid (B0.out.trans (hbel.mono B0.out.size))
    have HB2 := Lib.hid hbel
    clear hbel
    cases j with
    | zero =>
      have hki : ¬ (0 : Int) ≤ ((0 : Nat) : Int) - 1 := by omega
      rw [List.drop_zero]
      go_wp2_with fail
      go_ret
      exact ⟨rfl, HB.out⟩
    | succ k =>
      have e1 : ((k + 1 : Nat) : Int) - 1 = (k : Int) := by omega
      rw [e1]
      have hk0 : (0 : Int) ≤ (k : Int) := by omega
      have hki : (k : Int) < (n : Int) := by omega
      obtain ⟨b, off, rfl, c1⟩ := strs_at_p HL.out (B0.out.trans (HB2.out.mono B0.out.size)) (show k < n by omega)
      obtain ⟨Y, hY⟩ : ∃ Y, l.getD k ByteArray.empty = Y := ⟨_, rfl⟩
      have hYs : Y.size = 32 := HM.out Y (by rw [← hY]; exact getD_mem_p l k (by omega))
      have hdr : l.drop k = Y :: l.drop (k + 1) := by rw [← hY]; exact drop_getP l k (by omega)
      rw [hY] at c1
      obtain ⟨C, hC⟩ : ∃ C, upF p (k + 1) h0 (l.drop (k + 1)) = C := ⟨_, rfl⟩
      have hCs : C.size = 32 := by rw [← hC]; exact upF_32 p (k + 1) h0 hh _
      rw [hC]
      have hup : upF p k h0 (l.drop k) = if bitN p k = 0 then innerB C Y else innerB Y C := by rw [hdr, upF, hC]
      have hkw : IntKind.i64.wrap ((k : Int) - 1) = (k : Int) - 1 := by rw [IntKind.wrap_i64]; omega
      have hkj : k ≤ n := by omega
      obtain ⟨y, hy⟩ : ∃ y, bitN p k = y := ⟨_, rfl⟩
      have hy2 : y = 0 ∨ y = 1 := by rw [← hy]; exact bitN_two p k
      have hbit := Lib.hid (HBit.out k (by omega))
      rw [hy] at hbit hup
      have A1 := Lib.hid (show wr.rangeAt w.heap.size 0 L from fun j v hv => by rw [cell_below HB2.out (a := ⟨w.heap.size, 0 + j, none⟩) hA0l]; exact A0.out j v hv)
      have hbr := World.block_lt_of_cell? _ _ c1
      have B1 := Lib.hid ((Below.refl wr.heap.size wr).alloc (Nat.le_refl _) (.cells L.toArray 67))
      have c2 := cell_alloc_sl (.cells L.toArray 67) c1
      clear hC hY hdr hy c1
      go_wp2_with (refine wpList_load_mid rfl 67 (.tmp 4) rfl w.heap.size 0 rfl L _ A1.out Tryz.underlying67 rfl hinf ?_)
      refine (hbit.out _).mono ?_
      rintro e w1 ⟨rfl, rfl⟩
      have T1 := Lib.hid (HT.out.below (HB.out.trans (B1.out.mono HB.out.size)) HT.out.lt)
      rcases hy2 with rfl | rfl
      · rw [if_pos rfl] at hup
        have HS := Lib.hid hup
        obtain ⟨W, hW⟩ : ∃ W, innerB C Y = W := ⟨_, rfl⟩
        rw [hW] at HS
        have HW := Lib.hid (fun w ht => tinner_any C Y w (by omega) ht)
        rw [hW] at HW
        clear hup hW
        go_wp2_with fail
        refine (HW.out _ T1.out).mono ?_
        rintro e w4 ⟨rfl, h4⟩
        have B4 := Lib.hid (HB2.out.trans ((B1.out.trans (h4.mono B1.out.size)).mono HB2.out.size))
        clear h4 c2
        go_wp2_with fail
        go_roundw
        case rel => exact ⟨k, by omega, rfl, by rw [HS.out], B4.out⟩
        case measure => simp only [intOf]; omega
      · rw [if_neg (by omega)] at hup
        have HS := Lib.hid hup
        obtain ⟨W, hW⟩ : ∃ W, innerB Y C = W := ⟨_, rfl⟩
        rw [hW] at HS
        have HW := Lib.hid (fun w ht => tinner_any Y C w (by omega) ht)
        rw [hW] at HW
        clear hup hW
        go_wp2_with fail
        refine (HW.out _ T1.out).mono ?_
        rintro e w4 ⟨rfl, h4⟩
        have B4 := Lib.hid (HB2.out.trans ((B1.out.trans (h4.mono B1.out.size)).mono HB2.out.size))
        clear h4 c2
        go_wp2_with fail
        go_roundw
        case rel => exact ⟨k, by omega, rfl, by rw [HS.out], B4.out⟩
        case measure => simp only [intOf]; omega

/-! valid. -/
theorem wrong_at (w : World) : PredAt Tryz.prog 73 #[] Value.string (fun h => !decide (h.size = 32)) w := fun W x _ => by
  show Calls Tryz.prog 73 #[.string x] W fun e w' => e = .returned (.bool (!decide (x.size = 32))) ∧ ∃ q, w' = W.drewN q
  have he : ((x.size : Int) != 32) = !decide (x.size = 32) := by
    by_cases h : x.size = 32
    · rw [h]; rfl
    · have h2 : ¬ (x.size : Int) = 32 := by omega
      rw [decide_eq_false h, bne_iff_ne.2 h2]; rfl
  obtain ⟨B, hB⟩ : ∃ B, (!decide (x.size = 32)) = B := ⟨_, rfl⟩
  rw [hB] at he ⊢
  clear hB
  go_enter Tryz.func73, Tryz.ntmps73
  go_wp2_with fail
  go_ret
  exact ⟨by first | rfl | exact ret_bool he, 0, rfl⟩
theorem contains_any (l : List ByteArray) (a : Option Addr) (n c : Nat) (hn : n ≤ 9223372036854775807) (w : World) (hl : Strs w a n l) :
    Calls Tryz.prog 72 #[.slice a n c, .func (.func 73) #[] #[]] w fun e w' => e = .returned (.bool (l.any fun h => !decide (h.size = 32))) ∧ Below w.heap.size w w' := by
  rcases Nat.eq_zero_or_pos n with h0 | h0
  · subst h0
    obtain rfl : l = [] := List.eq_nil_of_length_eq_zero hl.1
    refine (AnyE.slices_ContainsFunc_empty containsPl a c _ w).mono ?_
    rintro e w' ⟨he, rfl⟩
    exact ⟨he, Below.refl _ _⟩
  · obtain ⟨b, off, rfl, hc⟩ := hl.2 h0
    refine (AnyE.slices_ContainsFunc containsPl Value.string (fun h => !decide (h.size = 32)) 73 #[] (enters_of Tryz.func73 (by kernel_rfl) rfl) b off n c l w (wrong_at w) (by rw [hl.1]; exact Nat.le_refl _) hn (fun j hj => ?_)).mono ?_
    · rw [hc j (by rw [← hl.1]; exact hj), getElem!_pos l j hj, List.getD_eq_getElem?_getD, List.getElem?_eq_getElem hj]; rfl
    · rintro e w' ⟨he, q, rfl⟩
      rw [List.take_of_length_le (by rw [hl.1]; exact Nat.le_refl _)] at he
      exact ⟨he, below_drewN (Below.refl _ _) q⟩
theorem right_any_eq (l : List ByteArray) : rightB l = (decide (l.length ≤ 256) && !(l.any fun h => !decide (h.size = 32))) := by
  unfold rightB
  congr 1
  induction l with
  | nil => rfl
  | cons x l ih =>
    rw [List.all_cons, List.any_cons, ih]
    simp

set_option maxHeartbeats 1000000 in
theorem valid_any (l : List ByteArray) (a : Option Addr) (n c : Nat) (hn : n ≤ 9223372036854775807) (w : World) (hl : Strs w a n l) :
    Calls Tryz.prog 51 #[.slice a n c] w fun e w' => e = .returned (.bool (rightB l)) ∧ Below w.heap.size w w' := by
  have HC := Lib.hid (contains_any l a n c hn w hl)
  have hr := right_any_eq l
  rw [hl.1] at hr
  obtain ⟨X, hX⟩ : ∃ X, (l.any fun h => !decide (h.size = 32)) = X := ⟨_, rfl⟩
  rw [hX] at HC hr
  rw [hr]
  clear hX hl hr
  by_cases h : n ≤ 256
  · have hi : (n : Int) ≤ 256 := by omega
    rw [decide_eq_true h, Bool.true_and]
    clear h
    go_enter Tryz.func51, Tryz.ntmps51
    go_wp2_with fail
    refine HC.out.mono ?_
    rintro e w1 ⟨rfl, h1⟩
    have B1 := Lib.hid h1
    clear h1
    go_wp2_with fail
    go_ret
    exact ⟨rfl, B1.out⟩
  · have hi : ¬ (n : Int) ≤ 256 := by omega
    rw [decide_eq_false h, Bool.false_and]
    clear h
    go_enter Tryz.func51, Tryz.ntmps51
    go_wp2_with fail
    go_ret
    exact ⟨rfl, Below.refl _ _⟩

/-! agree. -/
theorem begins_next (p q : ByteArray) (k : Nat) : beginsB p q (k + 1) = (beginsB p q k && decide (bitN p k = bitN q k)) := by
  unfold beginsB
  rw [List.range_succ, List.all_append]
  simp
theorem begins_le {p q : ByteArray} {k n : Nat} (h : k ≤ n) (hf : beginsB p q k = false) : beginsB p q n = false := by
  rw [← Bool.not_eq_true] at hf ⊢
  rw [begins_iff] at hf ⊢
  exact fun h1 => hf fun j hj => h1 j (by omega)

set_option maxHeartbeats 4000000 in
theorem agree_any (p q : ByteArray) (hp : p.size = 32) (hq : q.size = 32) (n : Nat) (hn : n ≤ 256) (w : World) :
    Calls Tryz.prog 74 #[keyV p, keyV q, .int .i64 (n : Int)] w fun e w' => e = .returned (.bool (beginsB p q n)) ∧ Below w.heap.size w w' := by
  have b1 := (Blk.new w 67 (byteVs p.data.toList).toArray).alloc (.cells (byteVs q.data.toList).toArray 67)
  have b2 := Blk.new (w.alloc (.cells (byteVs p.data.toList).toArray 67)) 67 (byteVs q.data.toList).toArray
  rw [World.size_alloc] at b2
  have B0 := Lib.hid (((Below.refl w.heap.size w).alloc (Nat.le_refl _) (.cells (byteVs p.data.toList).toArray 67)).alloc (by simp) (.cells (byteVs q.data.toList).toArray 67))
  have a1 := At.of_blk b1
  have a2 := At.of_blk b2
  have l1 := b1.lt
  have l2 := b2.lt
  have HP := Lib.hid (fun d hd w => bit_any p hp d hd w)
  have HQ := Lib.hid (fun d hd w => bit_any q hq d hd w)
  have hkp : keyV p = .agg (byteVs p.data.toList).toArray := rfl
  have hkq : keyV q = .agg (byteVs q.data.toList).toArray := rfl
  have hinf := info32 hp
  have hinf2 := info32 hq
  have hu := Tryz.underlying67
  unfold At at a1 a2
  rw [hkp] at HP ⊢
  rw [hkq] at HQ ⊢
  obtain ⟨L, hL⟩ : ∃ L, byteVs p.data.toList = L := ⟨_, rfl⟩
  obtain ⟨M, hM⟩ : ∃ M, byteVs q.data.toList = M := ⟨_, rfl⟩
  rw [hL] at HP hinf a1 l1 l2 B0 ⊢
  rw [hM] at HQ hinf2 a2 B0 ⊢
  rw [hM] at a1 l1 l2
  rw [hL] at a2
  have HA1 := Lib.hid a1
  have HA2 := Lib.hid a2
  clear hkp hkq hL hM b1 b2 a1 a2
  go_enter Tryz.func74, Tryz.ntmps74
  go_upto_region 1 with fail
  generalize (w.alloc (.cells L.toArray 67)).alloc (.cells M.toArray 67) = w0 at *
  go_wp2_with fail
  go_loopw [9] (fun y wr => ∃ k : Nat, k ≤ n ∧ y = .int .i64 (k : Int) ∧ beginsB p q k = true ∧ Below w0.heap.size w0 wr) (fun y _ => n - (intOf y).toNat)
  case atStart => exact ⟨0, Nat.zero_le _, rfl, rfl, Below.refl _ _⟩
  case round =>
    obtain ⟨k, hk, rfl, hbeg, hbel⟩ := hrel
    have HBg := Lib.hid hbeg
    have HB := Lib.hid hbel
    clear hbeg
    by_cases hlt : k < n
    · have hki : (k : Int) < (n : Int) := by omega
      have hP := Lib.hid (HP.out k (by omega))
      have hQ := Lib.hid (HQ.out k (by omega))
      have hkw : IntKind.i64.wrap ((k : Int) + 1) = ((k + 1 : Nat) : Int) := by rw [IntKind.wrap_i64]; omega
      have HS := Lib.hid (fun (w' : World) (hb : Below wr.heap.size wr w') => show w'.rangeAt w.heap.size 0 L ∧ w'.rangeAt (w.heap.size + 1) 0 M from
        ⟨fun j v hv => by rw [cell_below (hbel.trans (hb.mono hbel.size)) (a := ⟨w.heap.size, 0 + j, none⟩) l1]; exact HA1.out j v hv,
          fun j v hv => by rw [cell_below (hbel.trans (hb.mono hbel.size)) (a := ⟨w.heap.size + 1, 0 + j, none⟩) l2]; exact HA2.out j v hv⟩)
      have B1 := Lib.hid (fun o : Obj => (Below.refl wr.heap.size wr).alloc (Nat.le_refl _) o)
      have B2 := Lib.hid (fun o o' : Obj => ((Below.refl wr.heap.size wr).alloc (Nat.le_refl _) o).alloc (show wr.heap.size ≤ (wr.alloc o).heap.size by simp) o')
      obtain ⟨x, hx⟩ : ∃ x, bitN p k = x := ⟨_, rfl⟩
      obtain ⟨y, hy⟩ : ∃ y, bitN q k = y := ⟨_, rfl⟩
      rw [hx] at hP
      rw [hy] at hQ
      have HXY := Lib.hid (And.intro hx hy)
      have hnx := begins_next p q k
      rw [HBg.out, Bool.true_and, hx, hy] at hnx
      have HN := Lib.hid hnx
      clear hx hy hbel hnx
      by_cases hxy : x = y
      · subst hxy
        have hne : ((x : Int) != (x : Int)) = false := by simp
        go_wp2_with fail
        refine wp_region_held_drew (S := fun w' => w'.rangeAt w.heap.size 0 L ∧ w'.rangeAt (w.heap.size + 1) 0 M) (by kernel_rfl) (HS.out _ (Below.refl _ _).drew) (fun hHeld => ?_)
        refine wpAnyH_take (i := 0) (v := .agg (L).toArray) rfl (by kernel_rfl) (by kernel_rfl) (by kernel_rfl) (fun _ _ _ h => h) ?hy0 (by assumption) ?rest0
        case hy0 => exact yieldsIf_load_mid (by rfl) _ _ rfl (w.heap.size) (0) rfl (L) _ (fun _ h => h.1) hu rfl hinf
        try simp only [List.getElem_toArray, List.getElem_cons_zero, Act.put, List.setIfInBounds_toArray, List.set_cons_zero, List.set_cons_succ]
        refine wpAnyH_take (i := 1) (v := ?v1) rfl (by kernel_rfl) (by kernel_rfl) (by kernel_rfl) (fun _ _ _ h => h) (Or.inl ⟨by rfl, ?hy1⟩) (by assumption) ?rest1
        case hy1 => (intro w hSw; (try dsimp only at hSw); go_simp; try with_reducible rfl)
        try simp only [List.getElem_toArray, List.getElem_cons_zero, List.getElem_cons_succ, Act.put, List.setIfInBounds_toArray, List.set_cons_zero, List.set_cons_succ]
        refine wpAnyH_take (i := 3) (v := .agg (M).toArray) rfl (by kernel_rfl) (by kernel_rfl) (by kernel_rfl) (fun _ _ _ h => h) ?hy3 (by assumption) ?rest3
        case hy3 => exact yieldsIf_load_mid (by rfl) _ _ rfl (w.heap.size + 1) (0) rfl (M) _ (fun _ h => h.2) hu rfl hinf2
        try simp only [List.getElem_toArray, List.getElem_cons_zero, List.getElem_cons_succ, Act.put, List.setIfInBounds_toArray, List.set_cons_zero, List.set_cons_succ]
        refine wpAnyH_take (i := 4) (v := ?v4) rfl (by kernel_rfl) (by kernel_rfl) (by kernel_rfl) (fun _ _ _ h => h) (Or.inl ⟨by rfl, ?hy4⟩) (by assumption) ?rest4
        case hy4 => (intro w hSw; (try dsimp only at hSw); go_simp; try with_reducible rfl)
        try simp only [List.getElem_toArray, List.getElem_cons_zero, List.getElem_cons_succ, Act.put, List.setIfInBounds_toArray, List.set_cons_zero, List.set_cons_succ]
        refine wpAnyH_ready (rs := [2]) (by kernel_rfl) (by simp) ?_
        refine AllReadyH.cons rfl (fun K hK => ?_) AllReadyH.nil
        go_simp
        go_at_call 46; refine (hP.out _).mono ?_; rintro e w1 ⟨rfl, rfl⟩
        go_wp2_with fail
        refine hK.out _ _ ?_ (fun hHeld => ?_)
        · exact HS.out _ ((B1.out _).drew)
        clear hK K
        try simp only [List.getElem_toArray, List.getElem_cons_zero, List.getElem_cons_succ, Act.put, List.setIfInBounds_toArray, List.set_cons_zero, List.set_cons_succ]
        refine wpAnyH_ready (rs := [5]) (by kernel_rfl) (by simp) ?_
        refine AllReadyH.cons rfl (fun K hK => ?_) AllReadyH.nil
        go_simp
        go_at_call 46; refine (hQ.out _).mono ?_; rintro e w1 ⟨rfl, rfl⟩
        go_wp2_with fail
        refine hK.out _ _ ?_ (fun hHeld => ?_)
        · exact HS.out _ ((B2.out _ _).drew)
        clear hK K
        try simp only [List.getElem_toArray, List.getElem_cons_zero, List.getElem_cons_succ, Act.put, List.setIfInBounds_toArray, List.set_cons_zero, List.set_cons_succ]
        refine wpAnyH_take (i := 6) (v := ?v6) rfl (by kernel_rfl) (by kernel_rfl) (by kernel_rfl) (fun _ _ _ h => h) (Or.inl ⟨by rfl, ?hy6⟩) (by assumption) ?rest6
        case hy6 => (intro w hSw; (try dsimp only at hSw); go_simp; try with_reducible rfl)
        try simp only [List.getElem_toArray, List.getElem_cons_zero, List.getElem_cons_succ, Act.put, List.setIfInBounds_toArray, List.set_cons_zero, List.set_cons_succ]
        refine wpAnyH_done (by kernel_rfl) ?_ _
        go_wp2_with fail
        go_roundw
        case rel => exact ⟨k + 1, by omega, by go_num, by rw [HN.out]; simp, HB.out.trans ((B2.out _ _).drew.mono HB.out.size)⟩
        case measure => simp [intOf]; omega
      · have hne : ((x : Int) != (y : Int)) = true := by
          rw [bne_iff_ne]; omega
        have HF := Lib.hid (show beginsB p q n = false from begins_le (show k + 1 ≤ n by omega) (by rw [HN.out]; exact decide_eq_false hxy))
        clear hxy
        go_wp2_with fail
        refine wp_region_held_drew (S := fun w' => w'.rangeAt w.heap.size 0 L ∧ w'.rangeAt (w.heap.size + 1) 0 M) (by kernel_rfl) (HS.out _ (Below.refl _ _).drew) (fun hHeld => ?_)
        refine wpAnyH_take (i := 0) (v := .agg (L).toArray) rfl (by kernel_rfl) (by kernel_rfl) (by kernel_rfl) (fun _ _ _ h => h) ?hyB0 (by assumption) ?restB0
        case hyB0 => exact yieldsIf_load_mid (by rfl) _ _ rfl (w.heap.size) (0) rfl (L) _ (fun _ h => h.1) hu rfl hinf
        try simp only [List.getElem_toArray, List.getElem_cons_zero, Act.put, List.setIfInBounds_toArray, List.set_cons_zero, List.set_cons_succ]
        refine wpAnyH_take (i := 1) (v := ?vB1) rfl (by kernel_rfl) (by kernel_rfl) (by kernel_rfl) (fun _ _ _ h => h) (Or.inl ⟨by rfl, ?hyB1⟩) (by assumption) ?restB1
        case hyB1 => (intro w hSw; (try dsimp only at hSw); go_simp; try with_reducible rfl)
        try simp only [List.getElem_toArray, List.getElem_cons_zero, List.getElem_cons_succ, Act.put, List.setIfInBounds_toArray, List.set_cons_zero, List.set_cons_succ]
        refine wpAnyH_take (i := 3) (v := .agg (M).toArray) rfl (by kernel_rfl) (by kernel_rfl) (by kernel_rfl) (fun _ _ _ h => h) ?hyB3 (by assumption) ?restB3
        case hyB3 => exact yieldsIf_load_mid (by rfl) _ _ rfl (w.heap.size + 1) (0) rfl (M) _ (fun _ h => h.2) hu rfl hinf2
        try simp only [List.getElem_toArray, List.getElem_cons_zero, List.getElem_cons_succ, Act.put, List.setIfInBounds_toArray, List.set_cons_zero, List.set_cons_succ]
        refine wpAnyH_take (i := 4) (v := ?vB4) rfl (by kernel_rfl) (by kernel_rfl) (by kernel_rfl) (fun _ _ _ h => h) (Or.inl ⟨by rfl, ?hyB4⟩) (by assumption) ?restB4
        case hyB4 => (intro w hSw; (try dsimp only at hSw); go_simp; try with_reducible rfl)
        try simp only [List.getElem_toArray, List.getElem_cons_zero, List.getElem_cons_succ, Act.put, List.setIfInBounds_toArray, List.set_cons_zero, List.set_cons_succ]
        refine wpAnyH_ready (rs := [2]) (by kernel_rfl) (by simp) ?_
        refine AllReadyH.cons rfl (fun K hK => ?_) AllReadyH.nil
        go_simp
        go_at_call 46; refine (hP.out _).mono ?_; rintro e w1 ⟨rfl, rfl⟩
        go_wp2_with fail
        refine hK.out _ _ ?_ (fun hHeld => ?_)
        · exact HS.out _ ((B1.out _).drew)
        clear hK K
        try simp only [List.getElem_toArray, List.getElem_cons_zero, List.getElem_cons_succ, Act.put, List.setIfInBounds_toArray, List.set_cons_zero, List.set_cons_succ]
        refine wpAnyH_ready (rs := [5]) (by kernel_rfl) (by simp) ?_
        refine AllReadyH.cons rfl (fun K hK => ?_) AllReadyH.nil
        go_simp
        go_at_call 46; refine (hQ.out _).mono ?_; rintro e w1 ⟨rfl, rfl⟩
        go_wp2_with fail
        refine hK.out _ _ ?_ (fun hHeld => ?_)
        · exact HS.out _ ((B2.out _ _).drew)
        clear hK K
        try simp only [List.getElem_toArray, List.getElem_cons_zero, List.getElem_cons_succ, Act.put, List.setIfInBounds_toArray, List.set_cons_zero, List.set_cons_succ]
        refine wpAnyH_take (i := 6) (v := ?vB6) rfl (by kernel_rfl) (by kernel_rfl) (by kernel_rfl) (fun _ _ _ h => h) (Or.inl ⟨by rfl, ?hyB6⟩) (by assumption) ?restB6
        case hyB6 => (intro w hSw; (try dsimp only at hSw); go_simp; try with_reducible rfl)
        try simp only [List.getElem_toArray, List.getElem_cons_zero, List.getElem_cons_succ, Act.put, List.setIfInBounds_toArray, List.set_cons_zero, List.set_cons_succ]
        refine wpAnyH_done (by kernel_rfl) ?_ _
        go_wp2_with fail
        go_ret
        exact ⟨ret_bool HF.out.symm, B0.out.trans ((HB.out.trans ((B2.out _ _).drew.mono HB.out.size)).mono B0.out.size)⟩
    · have hki : ¬ (k : Int) < (n : Int) := by omega
      obtain rfl : k = n := by omega
      clear hlt hbel
      go_wp2_with fail
      go_ret
      exact ⟨ret_bool HBg.out.symm, B0.out.trans (HB.out.mono B0.out.size)⟩
end Go.Proofs.YtnkkckmejjcfkaaGreatDoor.Sp
