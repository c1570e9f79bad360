/- Package wots: Public, Sign, From. -/
import Derived.Test.YtncimfiiknbcfaaDoorWotWalk
import Derived.Test.YtncimfiiknbcfaaDoorWotDig
import Derived.Test.YtncimfiiknbcfaaDoorWotSem
import Derived.Test.YtncimfiiknbcfaaDoorOwns
import Derived.Test.YtncimfiiknbcfaaDoorStrJoin
import Derived.Lib.SmallJoins
namespace Go.Proofs.YtncimfiiknbcfaaDoor.Sp
open Go Go.RowKit
set_option maxRecDepth 100000

/-- Ten texts, of which the first k are there. -/
def rowT (f : Nat → ByteArray) (k : Nat) : List ByteArray := (List.range 10).map fun c => if c < k then f c else .empty
def rowV (f : Nat → ByteArray) (k : Nat) : Array Value := ((rowT f k).map Value.string).toArray
theorem rowV_made (f : Nat → ByteArray) : madeCells #[Value.string .empty] 10 = rowV f 0 := by kernel_rfl
theorem rowV_get (f : Nat → ByteArray) (k : Nat) (hk : k < 10) : (rowV f k)[k]? = some (.string .empty) := by
  simp [rowV, rowT, hk]
theorem rowV_set (f : Nat → ByteArray) (k : Nat) (hk : k < 10) : (rowV f k).setIfInBounds k (.string (f k)) = rowV f (k + 1) := by
  apply Array.toList_inj.1
  rw [Array.toList_setIfInBounds]
  apply List.ext_getElem
  · simp [rowV, rowT]
  · intro j h1 h2
    simp only [rowV, rowT, List.getElem_set, List.getElem_map, List.getElem_range]
    by_cases hjk : k = j
    · subst hjk
      simp
    · rw [if_neg hjk]
      rcases Nat.lt_or_ge j k with h | h
      · rw [if_pos h, if_pos (by omega)]
      · rw [if_neg (by omega), if_neg (by omega)]
theorem rowT_all (f : Nat → ByteArray) : rowT f 10 = endsTo f 10 := by
  unfold rowT endsTo
  apply List.map_congr_left
  intro c hc
  rw [List.mem_range] at hc
  rw [if_pos hc]
theorem rowV_strs {f : Nat → ByteArray} {w : World} {g : Nat} (h : Blk w g 9 (rowV f 10)) : Strs w (some ⟨g, 0, none⟩) 10 (endsTo f 10) := by
  rw [← rowT_all]
  exact strs_of_blk h (by simp [rowT])
/-- Ten digits lie apart from a block of texts. -/
theorem Cells.past {w : World} {a : Option Addr} {d : Nat → Nat} {f : Nat → ByteArray} {g k : Nat} (h : Cells w a 10 (fun j => intV (d j))) (hb : Blk w g 9 (rowV f k)) (i : Nat) (u : Value) : Cells (w.setCell ⟨g, i, none⟩ u) a 10 (fun j => intV (d j)) := by
  intro hn
  obtain ⟨b, off, e, hc⟩ := h hn
  refine ⟨b, off, e, fun j hj => ?_⟩
  have hne : b ≠ g := by
    rintro rfl
    have h0 := hc 0 (by omega)
    rw [hb.cell] at h0
    simp only [rowV, List.getElem?_toArray, List.getElem?_map, Option.map_eq_some_iff] at h0
    obtain ⟨x, _, hx⟩ := h0
    cases hx
  exact ((Only.refl g w).set_ i u).cell (hc j hj) hne
theorem run_make_texts (u : World) : (Instr.makeSlice 37 (.int .i64 10) (.int .i64 10)).run Tryd.prog u =
    .ok (.slice (some ⟨u.heap.size, 0, none⟩) 10 10) (u.alloc (.cells (madeCells #[.string .empty] 10) 9)) := by
  obtain ⟨i0, hi, hz0, hz1, hz2⟩ := info_parts infoText
  have h := run_make (P := Tryd.prog) u 37 9 i0 (.string .empty) Tryd.underlying37 hi hz0 .i64 .i64 10 10 (by omega) (by omega) (by rw [hz2]; omega) (by omega)
  simpa [hz1, Value.cells] using h
theorem join_flat (xs : List (List UInt8)) : Lib.join xs [] = xs.flatten := by
  cases xs with
  | nil => rfl
  | cons x r => rw [Lib.join_cons]; simp [Lib.joinTail]
theorem ends_len2 (f : Nat → ByteArray) (hf : ∀ c, c < 10 → (f c).size = 16) : len2 (endsTo f 10) 10 ≤ 140737488351300 := by
  have h := len2_16 (endsTo f 10) (by
    intro x hx
    simp only [endsTo, List.mem_map, List.mem_range] at hx
    obtain ⟨c, hc10, rfl⟩ := hx
    exact hf c hc10)
  rw [endsTo_length] at h
  omega

set_option maxHeartbeats 4000000 in
theorem wpublic_any (seed : ByteArray) (l : Int) (hl : -9223372036854775808 ≤ l ∧ l ≤ 9223372036854775807) (hs : seed.size ≤ 140737488351232) (w : World) (hT : Tab w) :
    Calls Tryd.prog 14 #[.string seed, .int .i64 l] w fun e w' => e = .returned (.string (publicB seed l)) ∧ Below w.heap.size w w' := by
  obtain ⟨f, hf⟩ : ∃ f : Nat → ByteArray, f = fun (c : Nat) => walkB (c : Int) 0 15 (secretB seed l (c : Int)) := ⟨_, rfl⟩
  have hfs : ∀ c, c < 10 → (f c).size = 16 := fun c _ => by rw [hf]; exact walkB_size _ _ _ _ (secretB_size _ _ _)
  obtain ⟨R, hR⟩ : ∃ R : ByteArray, publicB seed l = R := ⟨_, rfl⟩
  have HR := Lib.hid (show R = ⟨(sum (inB 4 (endsTo f 10))).toArray⟩ from by rw [← hR, hf]; rfl)
  rw [hR]
  have Hfs := Lib.hid hfs
  have HT := Lib.hid hT
  have Hf := Lib.hid hf
  have hmk := run_make_texts w
  rw [rowV_made f] at hmk
  clear hR hfs hT hf
  go_enter Tryd.func14, Tryd.ntmps14
  go_wp2_with fail
  go_loopw [10] (fun y wr => ∃ k : Nat, k ≤ 10 ∧ y = .int .i64 (k : Int) ∧ Blk wr w.heap.size 9 (rowV f k) ∧ Below w.heap.size w wr) (fun y _ => 10 - (intOf y).toNat)
  case atStart => exact ⟨0, by omega, rfl, Blk.new _ _ _, (Below.refl _ _).alloc (Nat.le_refl _) _⟩
  case round =>
    obtain ⟨k, hk, rfl, hblk, hbel⟩ := hrel
    have HK := Lib.hid hblk
    have HB := Lib.hid hbel
    have HTr := Lib.hid (tab_below HT.out hbel)
    have hbz := hbel.size
    clear hblk hbel hmk
    by_cases hlt : k < 10
    · have hki : (k : Int) < 10 := by omega
      have hk0 : (0 : Int) ≤ (k : Int) := by omega
      obtain ⟨Sx, hSx⟩ : ∃ Sx, secretB seed l (k : Int) = Sx := ⟨_, rfl⟩
      have HS := Lib.hid (secret_any seed l (k : Int) hl (by omega) hs)
      rw [hSx] at HS
      obtain ⟨W, hW⟩ : ∃ W, f k = W := ⟨_, rfl⟩
      have hWw : walkB (k : Int) 0 15 Sx = W := by rw [← hW, Hf.out, ← hSx]
      have HW := Lib.hid (wwalk_any (k : Int) 0 15 Sx (by omega) (by omega) (by omega) (by rw [← hSx, secretB_size]; omega))
      rw [hWw] at HW
      have hset := Lib.hid (show (rowV f k).setIfInBounds k (.string W) = rowV f (k + 1) from by rw [← hW]; exact rowV_set f k hlt)
      clear hSx hW hWw
      go_wp2_with fail
      refine (HS.out wr HTr.out).mono ?_
      rintro e w1 ⟨rfl, h1⟩
      have T1 := Lib.hid (tab_below HTr.out h1)
      have B1 := Lib.hid (HB.out.trans (h1.mono HB.out.size))
      have K1 := Lib.hid (HK.out.below h1 HK.out.lt)
      clear h1
      go_wp2_with fail
      refine (HW.out w1 T1.out).mono ?_
      rintro e w2 ⟨rfl, h2⟩
      have B2 := Lib.hid (B1.out.trans (h2.mono B1.out.size))
      have K2 := Lib.hid (K1.out.below h2 K1.out.lt)
      have hc2 := K2.out.cell k
      rw [rowV_get f k hlt] at hc2
      have hf2 := K2.out.frozen k
      clear h2 hlt
      go_wp2_with fail
      go_roundw
      case rel => exact ⟨k + 1, by omega, by go_num, by rw [← hset.out]; exact K2.out.set_ k _, B2.out.setCell (p := ⟨w.heap.size, k, none⟩) (Nat.le_refl _) _⟩
      case measure => simp [intOf]; omega
    · have hki : ¬ (k : Int) < 10 := by omega
      obtain rfl : k = 10 := by omega
      go_wp2_with fail
      refine (wtag_of 4 (by omega) (some ⟨w.heap.size, 0, none⟩) 10 10 (endsTo f 10) wr (rowV_strs HK.out) (by omega) (ends_len2 f Hfs.out) HTr.out R HR.out).mono ?_
      rintro e w3 ⟨rfl, h3⟩
      have B3 := Lib.hid (HB.out.trans (h3.mono HB.out.size))
      clear h3
      go_wp2_with fail
      go_ret
      exact ⟨rfl, B3.out⟩

theorem sign_flat (seed : ByteArray) (l : Int) (msg : ByteArray) (f : Nat → ByteArray) (hf : f = fun (c : Nat) => walkB (c : Int) 0 ((digitsN msg).getD c 0 : Nat) (secretB seed l (c : Int))) : ∀ k, (signUpto seed l msg k).data.toList = ((endsTo f k).map (·.data.toList)).flatten
  | 0 => rfl
  | k + 1 => by
    rw [endsTo_succ, List.map_append, List.flatten_append, ← sign_flat seed l msg f hf k, signUpto, Go.Joins.data_append, hf]
    simp
theorem ends_cells {f : Nat → ByteArray} {w : World} {g : Nat} (h : Blk w g 9 (rowV f 10)) : ∀ (j : Nat) x, (endsTo f 10)[j]? = some x → w.cell? ⟨g, j, none⟩ = some (.string x) := by
  intro j x hj
  rw [h.cell, rowV, rowT_all]
  simp [hj]

set_option maxHeartbeats 4000000 in
theorem wsign_any (seed : ByteArray) (l : Int) (msg : ByteArray) (hl : -9223372036854775808 ≤ l ∧ l ≤ 9223372036854775807) (hs : seed.size ≤ 140737488351232) (hm : msg.size ≤ 140737488351232) (w : World) (hT : Tab w) :
    Calls Tryd.prog 16 #[.string seed, .int .i64 l, .string msg] w fun e w' => e = .returned (.string (signB seed l msg)) ∧ Below w.heap.size w w' := by
  obtain ⟨f, hf⟩ : ∃ f : Nat → ByteArray, f = fun (c : Nat) => walkB (c : Int) 0 ((digitsN msg).getD c 0 : Nat) (secretB seed l (c : Int)) := ⟨_, rfl⟩
  obtain ⟨Z, hZ⟩ : ∃ Z, signB seed l msg = Z := ⟨_, rfl⟩
  have hJl : Lib.join ((endsTo f 10).map (·.data.toList)) ByteArray.empty.data.toList = Z.data.toList := by
    rw [← hZ]
    show Lib.join _ [] = _
    rw [join_flat, ← sign_flat seed l msg f hf 10]
    rfl
  have hZs : Z.size = 160 := by rw [← hZ]; exact sign_size _ _ _
  have HJ := Lib.hid hJl
  have HZs := Lib.hid hZs
  rw [hZ]
  have HT := Lib.hid hT
  have Hf := Lib.hid hf
  have hmk := run_make_texts w
  rw [rowV_made f] at hmk
  clear hT hZ hf hJl hZs
  go_enter Tryd.func16, Tryd.ntmps16
  go_wp2_with fail
  have T1 := Lib.hid (tab_alloc HT.out (.cells (rowV f 0) 9))
  have K1 := Lib.hid (Blk.new w 9 (rowV f 0))
  have B1 := Lib.hid ((Below.refl _ w).alloc (Nat.le_refl _) (.cells (rowV f 0) 9))
  clear hmk
  refine (wdigits_any msg hm _ T1.out).mono ?_
  rintro e w0 ⟨a, cap, rfl, hcells, h0⟩
  have HC0 := Lib.hid hcells
  have B0 := Lib.hid (B1.out.trans (h0.mono B1.out.size))
  have K0 := Lib.hid (K1.out.below h0 K1.out.lt)
  clear hcells h0
  go_wp2_with fail
  go_loopw [14] (fun y wr => ∃ k : Nat, k ≤ 10 ∧ y = .int .i64 (k : Int) ∧ Blk wr w.heap.size 9 (rowV f k) ∧ Cells wr a 10 (fun j => intV ((digitsN msg).getD j 0)) ∧ Below w.heap.size w wr) (fun y _ => 10 - (intOf y).toNat)
  case atStart => exact ⟨0, by omega, rfl, K0.out, HC0.out, B0.out⟩
  case round =>
    obtain ⟨k, hk, rfl, hblk, hc, hbel⟩ := hrel
    have HK := Lib.hid hblk
    have HB := Lib.hid hbel
    have HC := Lib.hid hc
    have HTr := Lib.hid (tab_below HT.out hbel)
    have hbz := hbel.size
    clear hblk hbel
    by_cases hlt : k < 10
    · have hki : (k : Int) < 10 := by omega
      have hk0 : (0 : Int) ≤ (k : Int) := by omega
      obtain ⟨b, off, rfl, hcell⟩ := hc (by omega)
      obtain ⟨d, hd⟩ : ∃ d, (digitsN msg).getD k 0 = d := ⟨_, rfl⟩
      have hd15 : d ≤ 15 := by rw [← hd]; exact digits_le msg k
      have ck := hcell k hlt
      simp only [hd, intV] at ck
      obtain ⟨Sx, hSx⟩ : ∃ Sx, secretB seed l (k : Int) = Sx := ⟨_, rfl⟩
      have HS := Lib.hid (secret_any seed l (k : Int) hl (by omega) hs)
      rw [hSx] at HS
      obtain ⟨W, hW⟩ : ∃ W, f k = W := ⟨_, rfl⟩
      have hWw : walkB (k : Int) 0 (d : Int) Sx = W := by rw [← hW, Hf.out, ← hSx, ← hd]
      have HW := Lib.hid (wwalk_any (k : Int) 0 (d : Int) Sx (by omega) (by omega) (by omega) (by rw [← hSx, secretB_size]; omega))
      rw [hWw] at HW
      have hset := Lib.hid (show (rowV f k).setIfInBounds k (.string W) = rowV f (k + 1) from by rw [← hW]; exact rowV_set f k hlt)
      clear hSx hW hWw hd hcell
      go_wp2_with fail
      refine (HS.out wr HTr.out).mono ?_
      rintro e w1 ⟨rfl, h1⟩
      have T1 := Lib.hid (tab_below HTr.out h1)
      have B1 := Lib.hid (HB.out.trans (h1.mono HB.out.size))
      have K1 := Lib.hid (HK.out.below h1 HK.out.lt)
      have C1 := Lib.hid (HC.out.below_ h1)
      clear h1
      go_wp2_with fail
      refine (HW.out w1 T1.out).mono ?_
      rintro e w2 ⟨rfl, h2⟩
      have B2 := Lib.hid (B1.out.trans (h2.mono B1.out.size))
      have K2 := Lib.hid (K1.out.below h2 K1.out.lt)
      have C2 := Lib.hid (C1.out.below_ h2)
      have hc2 := K2.out.cell k
      rw [rowV_get f k hlt] at hc2
      have hf2 := K2.out.frozen k
      clear h2 hlt ck
      go_wp2_with fail
      go_roundw
      case rel => exact ⟨k + 1, by omega, by go_num, by rw [← hset.out]; exact K2.out.set_ k _, C2.out.past K2.out k _, B2.out.setCell (p := ⟨w.heap.size, k, none⟩) (Nat.le_refl _) _⟩
      case measure => simp [intOf]; omega
    · have hki : ¬ (k : Int) < 10 := by omega
      obtain rfl : k = 10 := by omega
      clear hc
      go_wp2_with fail
      refine (join_any w.heap.size 10 10 (endsTo f 10) .empty wr (endsTo_length f 10) (ends_cells HK.out) HK.out.lt (by omega) (Nat.le_refl _) (by rw [HJ.out, size_list, HZs.out]; omega)).mono ?_
      rw [HJ.out]
      rintro e w3 ⟨rfl, h3⟩
      have B3 := Lib.hid (HB.out.trans (h3.mono HB.out.size))
      clear h3
      go_wp2_with fail
      go_ret
      exact ⟨rfl, B3.out⟩

theorem piece_eq (s : ByteArray) (p q : Nat) (hq : p + 16 = q) (hs : q ≤ s.size) : (s.extract p s.size).extract 0 16 = s.extract p q := by
  apply list_inj
  rw [extract_list, extract_list, extract_list, List.drop_zero, List.take_of_length_le (l := s.data.toList) (by rw [size_list]; omega), List.drop_take]
  congr 1
  omega

set_option maxHeartbeats 4000000 in
theorem wfrom_any (sig msg : ByteArray) (hs : sig.size ≤ 9223372036854775807) (hm : msg.size ≤ 140737488351232) (w : World) (hT : Tab w) :
    Calls Tryd.prog 18 #[.string sig, .string msg] w fun e w' => e = .returned (.string (fromB sig msg)) ∧ Below w.heap.size w w' := by
  have HT := Lib.hid hT
  clear hT
  by_cases hsz : sig.size = 160
  · obtain ⟨f, hf⟩ : ∃ f : Nat → ByteArray, f = fun (c : Nat) => walkB (c : Int) ((digitsN msg).getD c 0 : Nat) 15 (sig.extract (16 * c) (16 * c + 16)) := ⟨_, rfl⟩
    obtain ⟨R, hR⟩ : ∃ R : ByteArray, fromB sig msg = R := ⟨_, rfl⟩
    have HR := Lib.hid (show R = ⟨(sum (inB 4 (endsTo f 10))).toArray⟩ from by rw [← hR, fromB, if_pos hsz, hf]; rfl)
    have hfs : ∀ c, c < 10 → (f c).size = 16 := fun c hc => by
      rw [hf]
      refine walkB_size _ _ _ _ ?_
      rw [ByteArray.size_extract]; omega
    rw [hR]
    have Hfs := Lib.hid hfs
    have Hf := Lib.hid hf
    have hszi : (sig.size : Int) = 160 := by omega
    have hmk := run_make_texts w
    rw [rowV_made f] at hmk
    clear hR hfs hf hs
    go_enter Tryd.func18, Tryd.ntmps18
    go_wp2_with fail
    have T1 := Lib.hid (tab_alloc HT.out (.cells (rowV f 0) 9))
    have K1 := Lib.hid (Blk.new w 9 (rowV f 0))
    have B1 := Lib.hid ((Below.refl _ w).alloc (Nat.le_refl _) (.cells (rowV f 0) 9))
    clear hmk
    refine (wdigits_any msg hm _ T1.out).mono ?_
    rintro e w0 ⟨a, cap, rfl, hcells, h0⟩
    have HC0 := Lib.hid hcells
    have B0 := Lib.hid (B1.out.trans (h0.mono B1.out.size))
    have K0 := Lib.hid (K1.out.below h0 K1.out.lt)
    clear hcells h0
    go_wp2_with fail
    go_loopw [16] (fun y wr => ∃ k : Nat, k ≤ 10 ∧ y = .int .i64 (k : Int) ∧ Blk wr w.heap.size 9 (rowV f k) ∧ Cells wr a 10 (fun j => intV ((digitsN msg).getD j 0)) ∧ Below w.heap.size w wr) (fun y _ => 10 - (intOf y).toNat)
    case atStart => exact ⟨0, by omega, rfl, K0.out, HC0.out, B0.out⟩
    case round =>
      obtain ⟨k, hk, rfl, hblk, hc, hbel⟩ := hrel
      have HK := Lib.hid hblk
      have HB := Lib.hid hbel
      have HC := Lib.hid hc
      have HTr := Lib.hid (tab_below HT.out hbel)
      have hbz := hbel.size
      clear hblk hbel
      by_cases hlt : k < 10
      · have hki : (k : Int) < 10 := by omega
        have hk0 : (0 : Int) ≤ (k : Int) := by omega
        obtain ⟨b, off, rfl, hcell⟩ := hc (by omega)
        obtain ⟨d, hd⟩ : ∃ d, (digitsN msg).getD k 0 = d := ⟨_, rfl⟩
        have hd15 : d ≤ 15 := by rw [← hd]; exact digits_le msg k
        have ck := hcell k hlt
        simp only [hd, intV] at ck
        obtain ⟨p, hp⟩ : ∃ p : Nat, 16 * k = p := ⟨_, rfl⟩
        have hpi : (k : Int) * 16 = (p : Int) := by omega
        have hpw : IntKind.i64.wrap (p : Int) = (p : Int) := by rw [IntKind.wrap_i64]; omega
        have hps : (p : Int) ≤ (sig.size : Int) := by omega
        have hp160 : (p : Int) ≤ 160 := by omega
        have hp0 : (0 : Int) ≤ (p : Int) := by omega
        obtain ⟨V1, hV1⟩ : ∃ V1, sig.extract p sig.size = V1 := ⟨_, rfl⟩
        have hV1b : sig.extract p 160 = V1 := by rw [← hV1, hsz]
        have hV1s : V1.size = 160 - p := by rw [← hV1, ByteArray.size_extract]; omega
        have hV1i : (16 : Int) ≤ (V1.size : Int) := by omega
        obtain ⟨V, hV⟩ : ∃ V, sig.extract p (p + 16) = V := ⟨_, rfl⟩
        have hV2 : V1.extract 0 16 = V := by rw [← hV1, ← hV]; exact piece_eq sig p _ rfl (by omega)
        have hVs : V.size = 16 := by rw [← hV, ByteArray.size_extract]; omega
        obtain ⟨W, hW⟩ : ∃ W, f k = W := ⟨_, rfl⟩
        have hWw : walkB (k : Int) (d : Int) 15 V = W := by rw [← hW, Hf.out, ← hV, ← hp, ← hd]
        have HW := Lib.hid (wwalk_any (k : Int) (d : Int) 15 V (by omega) (by omega) (by omega) (by omega))
        rw [hWw] at HW
        have hset := Lib.hid (show (rowV f k).setIfInBounds k (.string W) = rowV f (k + 1) from by rw [← hW]; exact rowV_set f k hlt)
        clear hW hWw hd hcell hp hV hV1s
        go_wp2_with fail
        refine (HW.out wr HTr.out).mono ?_
        rintro e w2 ⟨rfl, h2⟩
        have B2 := Lib.hid (HB.out.trans (h2.mono HB.out.size))
        have K2 := Lib.hid (HK.out.below h2 HK.out.lt)
        have C2 := Lib.hid (HC.out.below_ h2)
        have hc2 := K2.out.cell k
        rw [rowV_get f k hlt] at hc2
        have hf2 := K2.out.frozen k
        clear h2 hlt ck
        go_wp2_with fail
        go_roundw
        case rel => exact ⟨k + 1, by omega, by go_num, by rw [← hset.out]; exact K2.out.set_ k _, C2.out.past K2.out k _, B2.out.setCell (p := ⟨w.heap.size, k, none⟩) (Nat.le_refl _) _⟩
        case measure => simp [intOf]; omega
      · have hki : ¬ (k : Int) < 10 := by omega
        obtain rfl : k = 10 := by omega
        clear hc
        go_wp2_with fail
        refine (wtag_of 4 (by omega) (some ⟨w.heap.size, 0, none⟩) 10 10 (endsTo f 10) wr (rowV_strs HK.out) (by omega) (ends_len2 f Hfs.out) HTr.out R HR.out).mono ?_
        rintro e w3 ⟨rfl, h3⟩
        have B3 := Lib.hid (HB.out.trans (h3.mono HB.out.size))
        clear h3
        go_wp2_with fail
        go_ret
        exact ⟨rfl, B3.out⟩
  · have hR : fromB sig msg = .empty := by rw [fromB, if_neg hsz]
    rw [hR]
    have hszb : ¬ (sig.size : Int) = 160 := by omega
    clear hR hsz
    go_enter Tryd.func18, Tryd.ntmps18
    go_wp2_with fail
    go_ret
    exact ⟨rfl, Below.refl _ _⟩
end Go.Proofs.YtncimfiiknbcfaaDoor.Sp
