/- Package tree: the iterator over the nodes above a leaf. -/
import Derived.WalkKit
import Derived.OwnWalkIn
import Derived.TacticsInMore
import Derived.LoopNIn
import Derived.LoopIn
import Derived.Shelf.RegionOpen
import Derived.RegionIn
import Derived.Stop.RegionWithIn
import Derived.Test.YtdkjlijmejleoaaDoorRngCell
import Derived.Test.YtdkjlijmejleoaaDoorTrgOver
import Derived.Test.YtdkjlijmejleoaaDoorTreB
namespace Go.Proofs.YtdkjlijmejleoaaDoor.Sp
open Go Go.RowKit Go.Shelf
attribute [local go_sem] Oper.semAt_some
set_option maxRecDepth 100000

theorem Strs.at_t {w wr : World} {a : Option Addr} {n k : Nat} {ss : List ByteArray} (h : Strs w a n ss) (hb : Below w.heap.size w wr) (hk : k < n) :
    ∃ b off, a = some ⟨b, off, none⟩ ∧ wr.cell? ⟨b, off + k, none⟩ = some (.string (ss.getD k ByteArray.empty)) := by
  obtain ⟨b, off, rfl, hc⟩ := (h.below hb).2 (by omega)
  exact ⟨b, off, rfl, hc k hk⟩
/-- A node above a leaf: its value, its text. -/
abbrev Nd := ByteArray × ByteArray
/-- The node so far up. -/
def ndAt (x : ByteArray) (I : Nat) (l : List ByteArray) (k : Nat) : Nd := (climbB x I (l.take (k + 1)), (climbedB x I l).getD k .empty)
theorem ranges_next {α : Type} (f : Nat → α) (k : Nat) : (List.range (k + 1)).map f = (List.range k).map f ++ [f k] := by simp [List.range_succ]
theorem climbed_getD (x : ByteArray) (I : Nat) (l : List ByteArray) (k : Nat) (hk : k < l.length) :
    (climbedB x I l).getD k .empty = if I / 2 ^ k % 2 = 0 then inpB (climbB x I (l.take k)) (l.getD k .empty) else inpB (l.getD k .empty) (climbB x I (l.take k)) := by
  have h1 : ∀ (a b : List ByteArray) (y : ByteArray), a.length = k → (a ++ y :: b).getD k .empty = y := fun a b y h => by
    subst h; simp
  have h2 : ∀ (p q : List ByteArray) (z : ByteArray) (j : Nat), climbedB z j (p ++ q) = climbedB z j p ++ climbedB (climbB z j p) (j / 2 ^ p.length) q := by
    intro p
    induction p with
    | nil => intro q z j; simp [climbedB, climbB]
    | cons y p ih => intro q z j; rw [List.cons_append, climbedB, ih, climbedB, climbB, List.length_cons, half_pow]; rfl
  have h3 : l = l.take k ++ l.getD k .empty :: l.drop (k + 1) := by
    rw [List.getD_eq_getElem?_getD, List.getElem?_eq_getElem hk]
    exact (List.take_append_drop k l).symm.trans (by rw [List.drop_eq_getElem_cons hk]; rfl)
  have h4 : (l.take k).length = k := by rw [List.length_take]; omega
  obtain ⟨y, hy⟩ : ∃ y, l.getD k ByteArray.empty = y := ⟨_, rfl⟩
  obtain ⟨p, hp⟩ : ∃ p, l.take k = p := ⟨_, rfl⟩
  rw [hy, hp] at h3 ⊢
  rw [hp] at h4
  rw [h3, h2, climbedB, h4]
  exact h1 _ _ _ (by rw [climbed_len, h4])

set_option maxHeartbeats 1000000 in
theorem ascent_any (x : ByteArray) (i : Int) (a : Option Addr) (n cap : Nat) (w : World) :
    Calls Tryd.prog 40 #[.string x, .int .i64 i, .slice a n cap] w fun e w' =>
      e = .returned (.func (.func 49) #[] #[.pointer (some ⟨w.heap.size + 1, 0, none⟩), .pointer (some ⟨w.heap.size, 0, none⟩), .pointer (some ⟨w.heap.size + 1 + 1, 0, none⟩)]) ∧
      w' = ((w.alloc (.cells #[.string x] 9)).alloc (.cells #[.int .i64 i] 3)).alloc (.cells #[.slice a n cap] 22) := by
  go_enter Tryd.func40, Tryd.ntmps40
  go_wp2_with fail
  go_ret
  exact ⟨rfl, rfl⟩

set_option maxHeartbeats 4000000 in
theorem ascent_stops (m : Nat) (hm : 1 ≤ m) (x : ByteArray) (i : Int) (hi : -9223372036854775808 ≤ i ∧ i ≤ 9223372036854775807) (I : Nat) (hI : i.toNat = I) (l : List ByteArray) (a : Option Addr) (n cap : Nat) (hn : n ≤ 9223372036854775807)
    (hM : ∀ y ∈ l, x.size + y.size ≤ 281474976710647 ∧ 32 + y.size ≤ 281474976710647) (w0 w : World) (hl : Strs w0 a n l) (hT : Tab w0) (hw : Below w0.heap.size w0 w)
    (Bi Bx Bp : Nat) (hBi : Blk w Bi 3 #[.int .i64 i]) (hBx : Blk w Bx 9 #[.string x]) (hBp : Blk w Bp 22 #[.slice a n cap]) :
    SeqCells Fence.wide m Tryd.prog 49 #[.pointer (some ⟨Bi, 0, none⟩), .pointer (some ⟨Bx, 0, none⟩), .pointer (some ⟨Bp, 0, none⟩)] (fun y : Nd => #[.agg #[.string y.1, .string y.2]]) w0.heap.size 48 (fun ys => ys = (List.range n).map (ndAt x I l)) n w := fun lb J W hW hJ hJc hY h0 => by
  have hlen := hl.1
  have c1 := (hBi.below hW hBi.lt).cell 0
  have c2 := (hBx.below hW hBx.lt).cell 0
  have c3 := (hBp.below hW hBp.lt).cell 0
  have d1 := fun o : Obj => ((hBi.below hW hBi.lt).alloc o).cell 0
  have d2 := fun o : Obj => ((hBx.below hW hBx.lt).alloc o).cell 0
  have d3 := fun o : Obj => ((hBp.below hW hBp.lt).alloc o).cell 0
  simp only [List.getElem?_toArray, List.getElem?_cons_zero] at c1 c2 c3 d1 d2 d3
  have hB0 : Below w0.heap.size w0 W := hw.trans (hW.mono hw.size)
  have HB0 := Lib.hid hB0
  have HL := Lib.hid hl
  have HT := Lib.hid hT
  have HM := Lib.hid hM
  have HJ := Lib.hid hJ
  have HJc := Lib.hid hJc
  have HY := Lib.hid hY
  have HJ0 := Lib.hid h0
  have hmax : (max i 0 : Int) = (I : Int) := by omega
  have hI9 : I ≤ 9223372036854775807 := by omega
  have hite : (if i < 0 then (0 : Int) else i) = (I : Int) := by split <;> omega
  have hite2 : (if 0 < i then i else (0 : Int)) = (I : Int) := by split <;> omega
  have hite3 : (if i ≤ 0 then (0 : Int) else i) = (I : Int) := by split <;> omega
  have hite4 : (if 0 ≤ i then i else (0 : Int)) = (I : Int) := by split <;> omega
  clear hBi hBx hBp hB0 hl hT hM hJ hJc hY h0 hw hW
  refine callsIn_of_wp Tryd.func49 rfl trivial ?_ rfl
  simp only [Tryd.ntmps49, List.size_toArray, List.length_cons, List.length_nil, Nat.reduceAdd, Nat.reduceSub, Array.replicate_succ, Array.replicate_zero, List.push_toArray, List.append_toArray, List.nil_append, List.cons_append]
  gi_wp2
  gi_region
  have e3 := d3 (.cells #[.string x, .string { data := #[] }] 48)
  obtain ⟨W1, hW1⟩ : ∃ W1, (W.alloc (.cells #[.string x, .string { data := #[] }] 48)).drew = W1 := ⟨_, rfl⟩
  have e3' : W1.cell? ⟨Bp, 0, none⟩ = some (.slice a n cap) := by rw [← hW1]; exact e3
  have HK1 := Lib.hid (show Blk W1 W.heap.size 48 #[.string x, .string { data := #[] }] from by rw [← hW1]; exact Blk.new _ _ _)
  have HB1 := Lib.hid (show Below w0.heap.size w0 W1 from by
    rw [← hW1]; exact HB0.out.trans ((((Below.refl W.heap.size W).alloc (Nat.le_refl _) _).drew).mono HB0.out.size))
  have HJ1 := Lib.hid (show J [] W1 from by
    rw [← hW1]; exact HJ.out _ _ _ none HJ0.out ⟨rfl, rfl, rfl, by simp [World.drew], fun k hk _ => Below.heap_alloc W _ k hk⟩ (fun r e => by cases e))
  rw [hW1]
  clear hW1 e3 d1 d2 d3 c1 c2 c3
  gi_wp2
  gi_loopw [5, 16] (fun tv kv wr => ∃ (k : Nat) (s : ByteArray), k ≤ n ∧ kv = .int .i64 (k : Int) ∧ tv = .int .i64 ((I / 2 ^ k : Nat) : Int) ∧ Blk wr W.heap.size 48 #[.string (climbB x I (l.take k)), .string s] ∧ J ((List.range k).map (ndAt x I l)) wr ∧ Below w0.heap.size w0 wr) (fun _ kv _ => n - (intOf kv).toNat)
  case atStart => exact ⟨0, _, by omega, rfl, by rw [Nat.pow_zero, Nat.div_one], HK1.out, HJ1.out, HB1.out⟩
  case round =>
    obtain ⟨k, s, hk, rfl, rfl, hblk, hJs, hbel⟩ := hrel
    have HK := Lib.hid hblk
    have HJr := Lib.hid hJs
    have HB := Lib.hid hbel
    clear hblk hJs hbel
    obtain ⟨C, hC⟩ : ∃ C, climbB x I (l.take k) = C := ⟨_, rfl⟩
    obtain ⟨E, hE⟩ : ∃ E, I / 2 ^ k = E := ⟨_, rfl⟩
    have hE9 : E ≤ 9223372036854775807 := by rw [← hE]; exact Nat.le_trans (Nat.div_le_self _ _) hI9
    rw [hC] at HK
    rw [hE]
    by_cases hlt : k < n
    · have hki : (k : Int) < (n : Int) := by omega
      have hk0 : (0 : Int) ≤ (k : Int) := by omega
      obtain ⟨b, off, rfl, c4⟩ := HL.out.at_t HB.out hlt
      obtain ⟨Y, hY⟩ : ∃ Y, l.getD k ByteArray.empty = Y := ⟨_, rfl⟩
      rw [hY] at c4
      have hCY : C.size + Y.size ≤ 281474976710647 := by
        have h1 := HM.out Y (by rw [← hY]; exact getD_mem_ l k (by omega))
        rcases climb_size (l.take k) x I with ⟨_, h2⟩ | h2
        · rw [← hC, h2]; exact h1.1
        · rw [← hC, h2]; exact h1.2
      have hstep := climb_take l k (by omega) x I
      rw [hC, hE, hY] at hstep
      have hstep2 := climbed_getD x I l k (by omega)
      rw [hC, hE, hY] at hstep2
      have hE2 : I / 2 ^ (k + 1) = E / 2 := by rw [← hE, Nat.pow_succ, Nat.div_div_eq_div_mul]
      obtain ⟨E', hE'⟩ : ∃ E', E / 2 = E' := ⟨_, rfl⟩
      rw [hE'] at hE2
      have HE2 := Lib.hid hE2
      have hq : (E : Int).tdiv 2 = (E' : Int) := by rw [Int.tdiv_eq_ediv_of_nonneg (by omega)]; omega
      have hq' : (E : Int) / 2 = (E' : Int) := by omega
      have hqw : IntKind.i64.wrap (E' : Int) = (E' : Int) := by rw [IntKind.wrap_i64]; omega
      have g1 := fun o : Obj => (HK.out.alloc o).cell 0
      have g2 := fun o : Obj => (HK.out.alloc o).cell 1
      simp only [List.getElem?_toArray, List.getElem?_cons_zero, List.getElem?_cons_succ] at g1 g2
      have HTr := Lib.hid (HT.out.below HB.out HT.out.lt)
      have Hlt := Lib.hid hlt
      clear hE2 hC hE hlt hY
      obtain ⟨V, hV⟩ : ∃ V, climbB x I (l.take (k + 1)) = V := ⟨_, rfl⟩
      obtain ⟨T, hTt⟩ : ∃ T, (climbedB x I l).getD k .empty = T := ⟨_, rfl⟩
      have HVT := Lib.hid (show ndAt x I l k = (V, T) from by unfold ndAt; rw [hV, hTt])
      have HV := Lib.hid hV
      rw [hV] at hstep
      rw [hTt] at hstep2
      clear hV hTt
      rcases Nat.mod_two_eq_zero_or_one E with hm2 | hm2
      · have hmi : (E : Int) % 2 = 0 := by omega
        have htm : (E : Int).tmod 2 = 0 := by rw [Int.tmod_eq_emod_of_nonneg (by omega)]; exact hmi
        rw [if_pos hm2] at hstep hstep2
        have HO := Lib.hid (fun w ht => over_any C s Y .empty w hCY ht)
        rw [← hstep, ← hstep2] at HO
        unfold ndV at HO
        clear hstep hstep2 hm2 hCY hE'
        gi_wp2_with fail
        refine ⟨trivial, (callsIn_wide.2 (HO.out _ (HTr.out.below ((Below.refl wr.heap.size wr).alloc (Nat.le_refl _) _) HTr.out.lt))).mono ?_⟩
        rintro e w5 ⟨rfl, h5⟩
        have b4 : Below wr.heap.size wr w5 := ((Below.refl wr.heap.size wr).alloc (Nat.le_refl _) _).trans (h5.mono (by simp))
        have hk5 : Blk w5 W.heap.size 48 #[.string C, .string s] := HK.out.below b4 HK.out.lt
        have g3 := hk5.cell 0
        have g4 := hk5.cell 1
        have f3 := hk5.frozen 0
        have f4 := hk5.frozen 1
        simp only [List.getElem?_toArray, List.getElem?_cons_zero, List.getElem?_cons_succ] at g3 g4
        have hK6 := Lib.hid ((hk5.set_ 0 (.string V)).set_ 1 (.string T))
        have hB6 := Lib.hid (((HB.out.trans (b4.mono HB.out.size)).setCell (p := ⟨W.heap.size, 0, none⟩) (by have := HB0.out.size; simpa using this) (.string V)).setCell (p := ⟨W.heap.size, 1, none⟩) (by have := HB0.out.size; simpa using this) (.string T))
        have hJ5 : J ((List.range k).map (ndAt x I l)) w5 := HJ.out _ wr w5 none HJr.out ⟨b4.os, b4.tape, b4.output, b4.size, fun k hk _ => b4.block k hk⟩ (fun r e => by cases e)
        have hJ6 : J ((List.range k).map (ndAt x I l)) ((w5.setCell ⟨W.heap.size, 0, none⟩ (.string V)).setCell ⟨W.heap.size, 1, none⟩ (.string T)) :=
          HJc.out _ w5 _ hJ5 (((Only.refl W.heap.size w5).set_ 0 (.string V)).set_ 1 (.string T)) hk5.lt
        obtain ⟨fn, tmps, assign, body, hy, hR⟩ := HY.out _ (V, T) _ hJ6 (by simpa using Hlt.out) ⟨_, hK6.out⟩
        dsimp only at hy
        have g5 := hK6.out.cell 0
        have g6 := hK6.out.cell 1
        simp only [List.setIfInBounds_toArray, List.set_cons_zero, List.set_cons_succ, List.getElem?_toArray, List.getElem?_cons_zero, List.getElem?_cons_succ] at g5 g6
        clear h5 b4 hk5 hJ5 hJ6 g1 g2
        gi_wp2_with fail
        refine hR.mono ?_
        rintro e W7 ⟨rfl, hJ7, hb7, hc7⟩
        have hK7 := Lib.hid (hc7 _ hK6.out)
        have hB7 := Lib.hid (hB6.out.trans hb7)
        have hJ7' := Lib.hid hJ7
        clear hJ7 hb7 hc7 hy hR g3 g4 f3 f4 g5 g6
        gi_wp2
        go_roundw
        case rel => exact ⟨k + 1, T, Hlt.out, by go_num, by rw [HE2.out], by rw [HV.out]; exact hK7.out, by rw [ranges_next, HVT.out]; exact hJ7'.out, hB7.out⟩
        case measure => simp [intOf]; omega
      · have hmi : (E : Int) % 2 = 1 := by omega
        have htm : (E : Int).tmod 2 = 1 := by rw [Int.tmod_eq_emod_of_nonneg (by omega)]; exact hmi
        rw [if_neg (by omega)] at hstep hstep2
        have HO := Lib.hid (fun w ht => over_any Y .empty C s w (by omega) ht)
        rw [← hstep, ← hstep2] at HO
        unfold ndV at HO
        clear hstep hstep2 hm2 hCY hE'
        gi_wp2_with fail
        refine ⟨trivial, (callsIn_wide.2 (HO.out _ (HTr.out.below ((Below.refl wr.heap.size wr).alloc (Nat.le_refl _) _) HTr.out.lt))).mono ?_⟩
        rintro e w5 ⟨rfl, h5⟩
        have b4 : Below wr.heap.size wr w5 := ((Below.refl wr.heap.size wr).alloc (Nat.le_refl _) _).trans (h5.mono (by simp))
        have hk5 : Blk w5 W.heap.size 48 #[.string C, .string s] := HK.out.below b4 HK.out.lt
        have g3 := hk5.cell 0
        have g4 := hk5.cell 1
        have f3 := hk5.frozen 0
        have f4 := hk5.frozen 1
        simp only [List.getElem?_toArray, List.getElem?_cons_zero, List.getElem?_cons_succ] at g3 g4
        have hK6 := Lib.hid ((hk5.set_ 0 (.string V)).set_ 1 (.string T))
        have hB6 := Lib.hid (((HB.out.trans (b4.mono HB.out.size)).setCell (p := ⟨W.heap.size, 0, none⟩) (by have := HB0.out.size; simpa using this) (.string V)).setCell (p := ⟨W.heap.size, 1, none⟩) (by have := HB0.out.size; simpa using this) (.string T))
        have hJ5 : J ((List.range k).map (ndAt x I l)) w5 := HJ.out _ wr w5 none HJr.out ⟨b4.os, b4.tape, b4.output, b4.size, fun k hk _ => b4.block k hk⟩ (fun r e => by cases e)
        have hJ6 : J ((List.range k).map (ndAt x I l)) ((w5.setCell ⟨W.heap.size, 0, none⟩ (.string V)).setCell ⟨W.heap.size, 1, none⟩ (.string T)) :=
          HJc.out _ w5 _ hJ5 (((Only.refl W.heap.size w5).set_ 0 (.string V)).set_ 1 (.string T)) hk5.lt
        obtain ⟨fn, tmps, assign, body, hy, hR⟩ := HY.out _ (V, T) _ hJ6 (by simpa using Hlt.out) ⟨_, hK6.out⟩
        dsimp only at hy
        have g5 := hK6.out.cell 0
        have g6 := hK6.out.cell 1
        simp only [List.setIfInBounds_toArray, List.set_cons_zero, List.set_cons_succ, List.getElem?_toArray, List.getElem?_cons_zero, List.getElem?_cons_succ] at g5 g6
        clear h5 b4 hk5 hJ5 hJ6 g1 g2
        gi_wp2_with fail
        refine hR.mono ?_
        rintro e W7 ⟨rfl, hJ7, hb7, hc7⟩
        have hK7 := Lib.hid (hc7 _ hK6.out)
        have hB7 := Lib.hid (hB6.out.trans hb7)
        have hJ7' := Lib.hid hJ7
        clear hJ7 hb7 hc7 hy hR g3 g4 f3 f4 g5 g6
        gi_wp2
        go_roundw
        case rel => exact ⟨k + 1, T, Hlt.out, by go_num, by rw [HE2.out], by rw [HV.out]; exact hK7.out, by rw [ranges_next, HVT.out]; exact hJ7'.out, hB7.out⟩
        case measure => simp [intOf]; omega
    · have hki : ¬ (k : Int) < (n : Int) := by omega
      obtain rfl : k = n := by omega
      gi_wp2
      go_end0
      first
        | exact ⟨⟨_, rfl⟩, _, rfl, HJr.out⟩
        | exact ⟨⟨_, rfl⟩, HJr.out⟩
end Go.Proofs.YtdkjlijmejleoaaDoor.Sp
