/- Package codec: the contracts of a Writer. -/
import Derived.Test.YtecamidkcdaopaaMem
import Derived.Test.YtecamidkcdaopaaCodPure
import Derived.Deep.RegionHeld3
import Derived.Deep.RegionLaw
import Derived.Deep.AppendLies
import Derived.WalkLawsBesides
namespace Go.Proofs.Ytecamidkcdaopaa.Sp
open Go Go.RowKit

/-- A Writer that holds the bytes l: its block, and its row, from block base on. -/
def Wr (w : World) (base g : Nat) (l : List UInt8) : Prop := base ≤ g ∧ ∃ v, Blk w g 63 #[v] ∧ Own w base v l

theorem newWriter_any (w : World) :
    Calls Try.prog 29 #[] w fun e w' => e = .returned (.pointer (some ⟨w.heap.size, 0, none⟩)) ∧ w' = w.alloc (.cells #[.slice none 0 0] 63) := by
  go_enter Try.func29, Try.ntmps29
  go_wp2
  go_ret
  exact ⟨rfl, rfl⟩

theorem shr_byte (n i : Nat) : IntKind.u8.wrap ((n : Int) / 2 ^ (8 * i)) = ((UInt8.ofNat (n / 256 ^ i)).toNat : Int) := by
  have e : ((n : Int) / 2 ^ (8 * i)) = ((n / 256 ^ i : Nat) : Int) := by
    rw [show (256 : Nat) = 2 ^ 8 from rfl, ← Nat.pow_mul, Int.natCast_ediv, Int.natCast_pow]; rfl
  rw [e, IntKind.wrap_u8', UInt8.toNat_ofNat']; omega
theorem put_own {w1 : World} {base gg cap : Nat} {l b : List UInt8} {n i : Nat}
    (h : w1.ownsRow base 5 1 (.slice (some ⟨gg, 0, none⟩) ((l ++ b).length + 1) cap) ((l ++ b).length + 1) (byteVs (l ++ b) ++ #[Value.int IntKind.u8 (IntKind.u8.wrap ((n : Int) / 2 ^ (8 * i)))].toList)) :
    Own w1 base (.slice (some ⟨gg, 0, none⟩) (l.length + b.length + 1) cap) (l ++ (b ++ [UInt8.ofNat (n / 256 ^ i)])) := by
  unfold Own
  rw [shr_byte] at h
  rw [← List.append_assoc, byteVs_append, List.length_append, List.length_singleton]
  rw [List.length_append] at h ⊢
  exact h

set_option maxHeartbeats 1000000 in
theorem put_any (base g n size : Nat) (l : List UInt8) (hn : n < 18446744073709551616) (hs : size ≤ 8) (w : World) (hW : Wr w base g l) (hl : l.length + size ≤ 140737488355328) :
    Calls Try.prog 40 #[.pointer (some ⟨g, 0, none⟩), .int .u64 (n : Int), .int .i64 (size : Int)] w fun e w' => e = .returned (.tuple #[]) ∧ Wr w' base g (l ++ be size n) ∧ Below base w w' := by
  obtain ⟨i0, hi, hz0, hz1, hz2⟩ := info_parts infoByte
  have HW := Lib.hid hW
  clear hW
  go_enter Try.func40, Try.ntmps40
  go_wp2_with fail
  go_loopw [6] (fun i wr => ∃ j r : Nat, j + r = size ∧ i = .int .i64 ((r : Int) - 1) ∧ Wr wr base g (l ++ beTop size n j) ∧ Below base w wr) (fun i _ => (intOf i + 1).toNat)
  case atStart => exact ⟨0, size, Nat.zero_add _, rfl, by rw [beTop_zero, List.append_nil]; exact HW.out, Below.refl _ _⟩
  case round =>
    obtain ⟨j, r, hj, rfl, ⟨hbg, v, hb, ho⟩, hbel⟩ := hrel
    have HJ := Lib.hid hj
    have HB := Lib.hid hb
    have HO := Lib.hid ho
    have HBel := Lib.hid hbel
    have hlj : (l ++ beTop size n j).length = l.length + j := by rw [List.length_append]; unfold beTop; rw [List.length_take, be_length]; omega
    have hcell : wr.cell? ⟨g, 0, none⟩ = some v := hb.cell 0
    have hfro := hb.frozen 0
    have hgl := hb.lt
    have hbz : base ≤ wr.heap.size := by omega
    clear hb ho hbel
    rcases r with _ | i
    · have HJ2 := Lib.hid (show j = size by omega)
      clear hj hcell hfro hlj
      go_wp2_with fail
      go_end0
      exact ⟨rfl, ⟨hbg, v, HB.out, by have h := HO.out; rw [HJ2.out, beTop_all] at h; exact h⟩, HBel.out⟩
    · have e : ((i + 1 : Nat) : Int) - 1 = (i : Int) := by omega
      rw [e]
      have hi0' : (0 : Int) ≤ (i : Int) := by omega
      have hi8 : (i : Int) ≤ 7 := by omega
      have h8 : IntKind.i64.wrap (8 * (i : Int)) = 8 * (i : Int) := by rw [IntKind.wrap_i64]; omega
      have h80 : (0 : Int) ≤ 8 * (i : Int) := by omega
      have h8n : (8 * (i : Int)).toNat = 8 * i := by omega
      have hA : (l ++ beTop size n j).length + 1 ≤ maxLen := by unfold maxLen; omega
      have hB : ((l ++ beTop size n j).length + 1) * 1 ≤ 140737488355328 := by omega
      have HLJ := Lib.hid hlj
      have hne := Lib.hid (own_blk_ne HO.out HB.out (by decide))
      clear hj e hlj
      go_wp2_with fail
      go_region_law ((refine step_append_lies _ (by rfl) _ _ _ (by rfl) base 5 i0 _ 1 1 Try.underlying61 hi hz0 hz1 hz2 rfl (by omega) v (l ++ beTop size n j).length (byteVs (l ++ beTop size n j)) (by rfl) ((World.ownsRow.alloc HO.out _).drew) ⟨wr.heap.size, 0, none⟩ 1 1 _ (by rfl) (by rfl) (World.news_of_block (fr := (0, 0)) (heap_alloc_new wr _)) (by simp [Value.oneCell']) (by omega) hA hB (by simp; omega) (wr.heap.size + 1) (by simp) ?_; intro gg cap w1 hown1 hgrow hat hgl; have hB1 := HB.out.kept ((Below.refl _ _).alloc (Nat.le_refl _) _).drew hgrow hne.out; have hc1 := hB1.cell 0; have hf1 := hB1.frozen 0; have HB1 := Lib.hid hB1; have HO1 := Lib.hid hown1; have HG1 := Lib.hid hgrow; clear hB1 hown1 hgrow hat))
      all_goals
        have HO2 := Lib.hid (own_set (put_own HO1.out) HB1.out (by decide) 0 (.slice (some ⟨gg, 0, none⟩) (l.length + (beTop size n j).length + 1) cap))
        have HB2 := Lib.hid (HB1.out.set_ 0 (.slice (some ⟨gg, 0, none⟩) (l.length + (beTop size n j).length + 1) cap))
        have HL2 := Lib.hid (((HBel.out.alloc hbz _).drew.grown HG1.out (by simp; omega) (fun k hk => (HO.out.lt k hk).1)).setCell (p := ⟨g, 0, none⟩) hbg (.slice (some ⟨gg, 0, none⟩) (l.length + (beTop size n j).length + 1) cap))
        clear hcell hfro hc1 hf1 hA hB
        go_wp2_with fail
        go_roundw
        case rel =>
          refine ⟨j + 1, i, by have := HJ.out; omega, rfl, ⟨hbg, _, HB2.out, ?_⟩, HL2.out⟩
          rw [beTop_succ size n j (by have := HJ.out; omega), show size - 1 - j = i by have := HJ.out; omega]
          exact HO2.out
        case measure => simp [intOf]

theorem wnum_any (base g n : Nat) (l : List UInt8) (hn : n < 18446744073709551616) (w : World) (hW : Wr w base g l) (hl : l.length + 8 ≤ 140737488355328) :
    Calls Try.prog 31 #[.pointer (some ⟨g, 0, none⟩), .int .u64 (n : Int)] w fun e w' => e = .returned (.tuple #[]) ∧ Wr w' base g (l ++ be 8 n) ∧ Below base w w' := by
  have HW := Lib.hid hW
  clear hW
  go_enter Try.func31, Try.ntmps31
  go_wp2_with fail
  refine (put_any base g n 8 l hn (by omega) _ HW.out hl).mono ?_
  rintro e w1 ⟨rfl, hw1, hb1⟩
  have H1 := Lib.hid hw1
  have H2 := Lib.hid hb1
  clear hw1 hb1
  go_wp2_with fail
  go_end0
  exact ⟨rfl, H1.out, H2.out⟩

theorem text_own {w1 : World} {base gg cap : Nat} {b : List UInt8} {s : ByteArray} {m : Nat} (hm : m = b.length + s.size)
    (h : w1.ownsRow base 5 1 (.slice (some ⟨gg, 0, none⟩) m cap) m (byteVs b ++ Lib.strCells s)) :
    Own w1 base (.slice (some ⟨gg, 0, none⟩) m cap) (b ++ s.data.toList) := by
  unfold Own
  rw [byteVs_append, List.length_append, size_list, ← hm]
  exact h

set_option maxHeartbeats 1000000 in
theorem wtext_any (base g : Nat) (s : ByteArray) (l : List UInt8) (w : World) (hW : Wr w base g l) (hl : l.length + 4 + s.size ≤ 140737488355328) :
    Calls Try.prog 30 #[.pointer (some ⟨g, 0, none⟩), .string s] w fun e w' => e = .returned (.tuple #[]) ∧ Wr w' base g (l ++ (be 4 s.size ++ s.data.toList)) ∧ Below base w w' := by
  obtain ⟨i0, hi, hz0, hz1, hz2⟩ := info_parts infoByte
  have HW := Lib.hid hW
  clear hW
  have hs0 : s.size ≤ 9223372036854775807 := by omega
  go_enter Try.func30, Try.ntmps30
  go_wp2_with fail
  refine (put_any base g s.size 4 l (by omega) (by omega) _ HW.out (by omega)).mono ?_
  rintro e w1 ⟨rfl, ⟨hbg, v, hb, ho⟩, hbel⟩
  obtain ⟨L, eL⟩ : ∃ L, L = l ++ be 4 s.size := ⟨_, rfl⟩
  rw [← eL] at ho
  have hL : L.length = l.length + 4 := by rw [eL, List.length_append, be_length]
  have hA : L.length + s.size ≤ maxLen := by unfold maxLen; omega
  have hB : L.length + s.size ≤ 140737488355328 := by omega
  have hP : 0 < L.length + s.size := by omega
  have HL := Lib.hid eL
  clear eL
  have HB := Lib.hid hb
  have HO := Lib.hid ho
  have H2 := Lib.hid hbel
  have hcell : w1.cell? ⟨g, 0, none⟩ = some v := hb.cell 0
  have hfro := hb.frozen 0
  have hgl := hb.lt
  have hbz : base ≤ w1.heap.size := by omega
  have hne := Lib.hid (own_blk_ne ho hb (by decide))
  clear hb ho hbel hL
  go_wp2_with (at_builtin; refine Lib.wpList_append_own_string _ rfl (.tmp 13) (.tmp 14) 61 9 rfl base 5 i0 Try.underlying61 Try.underlying9 hi hz0 hz1 hz2 v L.length (byteVs L) rfl HO.out s rfl hA hB hbz ?_)
  intro v2 w2 hown2 hg2 _
  obtain ⟨gg, cap, rfl, _, _⟩ := hown2.form hP
  have hB1 := HB.out.kept (Below.refl _ _) hg2 hne.out
  have hc1 := hB1.cell 0
  have hf1 := hB1.frozen 0
  have HB1 := Lib.hid hB1
  have HO1 := Lib.hid hown2
  have HG1 := Lib.hid hg2
  obtain ⟨m, hm⟩ : ∃ m, m = L.length + s.size := ⟨_, rfl⟩
  rw [← hm] at HO1 ⊢
  have HM := Lib.hid hm
  clear hB1 hown2 hg2 hm hA hB hcell hfro
  go_wp2_with fail
  go_end0
  refine ⟨rfl, ⟨hbg, _, HB1.out.set_ 0 (.slice (some ⟨gg, 0, none⟩) m cap), ?_⟩, (H2.out.grown HG1.out hbz (fun k hk => (HO.out.lt k hk).1)).setCell (p := ⟨g, 0, none⟩) hbg _⟩
  rw [← List.append_assoc, ← HL.out]
  exact own_set (text_own HM.out HO1.out) HB1.out (by decide) 0 _

theorem bytes_any (base g : Nat) (l : List UInt8) (w : World) (hW : Wr w base g l) :
    Calls Try.prog 32 #[.pointer (some ⟨g, 0, none⟩)] w fun e w' => e = .returned (.string ⟨l.toArray⟩) ∧ w = w' := by
  obtain ⟨_, v, hb, ho⟩ := hW
  have hcell : w.cell? ⟨g, 0, none⟩ = some v := hb.cell 0
  have hconv := run_text_of_own ho
  clear hb ho
  go_enter Try.func32, Try.ntmps32
  go_wp2_with fail
  go_ret
  exact ⟨rfl, rfl⟩

/-- An item as cells. -/
def itCell (x : It) (k : Nat) : Value := match k with | 0 => .bool x.t | 1 => .int .u64 (x.n : Int) | _ => .string x.s
/-- A slice value over n items. -/
def Items (w : World) (a : Option Addr) (n : Nat) (l : List It) : Prop :=
  l.length = n ∧ (0 < n → ∃ b off, a = some ⟨b, off, none⟩ ∧ ∀ j, j < n → ∀ k, k < 3 → w.cell? ⟨b, off + j * 3 + k, none⟩ = some (itCell (l.getD j It.none_) k))
theorem Items.below {w w' : World} {B : Nat} {a : Option Addr} {n : Nat} {l : List It} (h : Items w a n l) (hb : Below B w w') (hB : ∀ b off, a = some ⟨b, off, none⟩ → 0 < n → b < B) : Items w' a n l :=
  ⟨h.1, fun hn => by
    obtain ⟨b, off, e, hc⟩ := h.2 hn
    exact ⟨b, off, e, fun j hj k hk => (hb.cell (p := ⟨b, off + j * 3 + k, none⟩) (hB b off e hn)).trans (hc j hj k hk)⟩⟩
theorem Items.lt {w : World} {a : Option Addr} {n : Nat} {l : List It} (h : Items w a n l) : ∀ b off, a = some ⟨b, off, none⟩ → 0 < n → b < w.heap.size := by
  intro b off e hn
  obtain ⟨b', off', e', hc⟩ := h.2 hn
  rw [e] at e'
  injection e' with e'
  injection e' with e1 e2
  subst e1
  exact World.block_lt_of_cell? w _ (hc 0 hn 0 (by omega))
theorem Items.below' {w w' : World} {a : Option Addr} {n : Nat} {l : List It} (h : Items w a n l) (hb : Below w.heap.size w w') : Items w' a n l := h.below hb h.lt

set_option maxHeartbeats 2000000 in
theorem laid_any (a : Option Addr) (n c : Nat) (l : List It) (hwf : ∀ x ∈ l, x.n < 18446744073709551616) (w : World) (hI : Items w a n l) (hn : n ≤ 9223372036854775807) (hlen : laidLen l ≤ 140737488355328) :
    Calls Try.prog 16 #[.slice a n c] w fun e w' => e = .returned (.string ⟨(laid l).toArray⟩) ∧ Below w.heap.size w w' := by
  have HI := Lib.hid hI
  have HN := Lib.hid hI.1
  have HWF := Lib.hid hwf
  clear hI hwf
  go_enter Try.func16, Try.ntmps16
  go_wp2_with fail
  refine (newWriter_any _).mono ?_
  rintro e w1 ⟨rfl, rfl⟩
  go_wp2_with fail
  go_loopw [4] (fun i wr => ∃ k : Nat, k ≤ n ∧ i = .int .i64 (k : Int) ∧ Wr wr w.heap.size w.heap.size (laid (l.take k)) ∧ Below w.heap.size w wr) (fun i _ => n - (intOf i).toNat)
  case atStart => exact ⟨0, Nat.zero_le _, rfl, ⟨Nat.le_refl _, _, Blk.new w _ _, World.ownsRow_nil _ _ _ _⟩, (Below.refl _ _).alloc (Nat.le_refl _) _⟩
  case round =>
    obtain ⟨k, hk, rfl, hW, hbel⟩ := hrel
    have HW := Lib.hid hW
    have HB := Lib.hid hbel
    clear hW hbel
    by_cases hlt : k < n
    · obtain ⟨b, off, rfl, hc⟩ := HI.out.2 (by omega)
      obtain ⟨X, eX⟩ : ∃ X, X = l.getD k It.none_ := ⟨_, rfl⟩
      have hXm : X ∈ l := by rw [eX, List.getD_eq_getElem?_getD, List.getElem?_eq_getElem (by rw [HN.out]; exact hlt)]; exact List.getElem_mem _
      have hXn := HWF.out X hXm
      have hbw := HI.out.lt b off rfl (by omega)
      have h0 := (HB.out.cell (p := ⟨b, off + k * 3 + 0, none⟩) hbw).trans (hc k hlt 0 (by omega))
      have h1 := (HB.out.cell (p := ⟨b, off + k * 3 + 1, none⟩) hbw).trans (hc k hlt 1 (by omega))
      have h2 := (HB.out.cell (p := ⟨b, off + k * 3 + 2, none⟩) hbw).trans (hc k hlt 2 (by omega))
      rw [← eX] at h0 h1 h2
      simp only [itCell, Nat.add_zero] at h0 h1 h2
      have hs2 : laidLen (l.take (k + 1)) = laidLen (l.take k) + X.long := by rw [eX]; exact laidLen_succ l k (by rw [HN.out]; exact hlt)
      have hm2 := laidLen_le l (k + 1)
      have hll := laid_length (l.take k)
      have hsucc := Lib.hid (show laid (l.take (k + 1)) = laid (l.take k) ++ enc X from by rw [eX]; exact laid_succ l k (by rw [HN.out]; exact hlt))
      have hbnd : (laid (l.take k)).length + X.long ≤ 140737488355328 := by omega
      clear hs2 hm2 hll hc hXm
      rcases hXt : X.t with _ | _
      · have hl8 : X.long = 8 := by unfold It.long; rw [hXt]; rfl
        have henc := Lib.hid (show enc X = be 8 X.n from by unfold enc; rw [hXt]; rfl)
        rw [hXt] at h0
        have hb8 : (laid (l.take k)).length + 8 ≤ 140737488355328 := by omega
        clear hl8 hXt eX h2
        go_wp2_with fail
        refine (wnum_any w.heap.size w.heap.size X.n _ hXn _ HW.out hb8).mono ?_
        rintro e w2 ⟨rfl, hw2, hb2⟩
        have HW2 := Lib.hid hw2
        have HB2 := Lib.hid (HB.out.trans hb2)
        clear hw2 hb2
        go_wp2_with fail
        go_roundw
        case rel => exact ⟨k + 1, by omega, by go_num, by rw [hsucc.out, henc.out]; exact HW2.out, HB2.out⟩
        case measure => simp [intOf]; omega
      · have hl8 : X.long = 4 + X.s.size := by unfold It.long; rw [hXt]; rfl
        have henc := Lib.hid (show enc X = be 4 X.s.size ++ X.s.data.toList from by unfold enc; rw [hXt]; rfl)
        rw [hXt] at h0
        have hb8 : (laid (l.take k)).length + 4 + X.s.size ≤ 140737488355328 := by omega
        clear hl8 hXt eX h1
        go_wp2_with fail
        refine (wtext_any w.heap.size w.heap.size X.s _ _ HW.out hb8).mono ?_
        rintro e w2 ⟨rfl, hw2, hb2⟩
        have HW2 := Lib.hid hw2
        have HB2 := Lib.hid (HB.out.trans hb2)
        clear hw2 hb2
        go_wp2_with fail
        go_roundw
        case rel => exact ⟨k + 1, by omega, by go_num, by rw [hsucc.out, henc.out]; exact HW2.out, HB2.out⟩
        case measure => simp [intOf]; omega
    · have HK := Lib.hid (show k = n by omega)
      clear hk
      have hki : ¬ (k : Int) < (n : Int) := by omega
      clear hlt
      go_wp2_with fail
      refine (bytes_any w.heap.size w.heap.size _ _ HW.out).mono ?_
      rintro e w2 ⟨rfl, rfl⟩
      go_wp2_with fail
      go_ret
      exact ⟨ret_string (by rw [HK.out, ← HN.out, List.take_length]), HB.out⟩

end Go.Proofs.Ytecamidkcdaopaa.Sp
