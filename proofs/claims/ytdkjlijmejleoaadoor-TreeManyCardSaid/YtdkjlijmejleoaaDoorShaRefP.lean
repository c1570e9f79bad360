/- The document's own answer for package sha: the padding. -/
import Derived.Test.YtdkjlijmejleoaaDoorShaPb
import Derived.Deep.AppendLies
namespace Go.Proofs.YtdkjlijmejleoaaDoor.Sp
open Go Go.RowKit
set_option maxRecDepth 100000

theorem rpad_neg (n : Int) (h : n < 0) (w : World) : Calls Tryd.prog 57 #[.int .i64 n] w fun e w' => e = .returned (.string ⟨#[]⟩) ∧ w = w' := by
  go_enter Tryd.func57, Tryd.ntmps57
  go_wp2
  go_ret
  exact ⟨rfl, rfl⟩

/-- The eight bytes of the length. -/
def bytes8 (n : Nat) : List UInt8 := bytes4 (BitVec.ofNat 32 (8 * n / 4294967296)) ++ bytes4 (BitVec.ofNat 32 (8 * n))
theorem bytes8_length (n : Nat) : (bytes8 n).length = 8 := rfl
theorem lowB_nat (x : W) : ((lowB x).toNat : Int) = ((x.toNat % 256 : Nat) : Int) := by
  unfold lowB; rw [UInt8.toNat_ofNat']
theorem bytes8_get (n : Nat) (k : Nat) (hk : k < 8) : (((bytes8 n).getD k 0).toNat : Int) = ((8 * n % 18446744073709551616 / 2 ^ (8 * (7 - k)) % 256 : Nat) : Int) := by
  rcases k with _ | _ | _ | _ | _ | _ | _ | _ | k
  all_goals first
    | omega
    | (simp only [bytes8, bytes4, List.cons_append, List.nil_append, List.getD_cons_zero, List.getD_cons_succ]
       rw [lowB_nat]
       simp only [BitVec.toNat_ushiftRight, BitVec.toNat_ofNat, Nat.shiftRight_eq_div_pow]
       simp only [Nat.reduceSub, Nat.reduceMul, Nat.reducePow, Nat.reduceAdd, Nat.zero_add, Nat.sub_zero]
       omega)
theorem bytes8_succ (n k : Nat) (hk : k < 8) : (bytes8 n).take (k + 1) = (bytes8 n).take k ++ [(bytes8 n).getD k 0] := by
  rw [List.take_succ_eq_append_getElem (by rw [bytes8_length]; exact hk), List.getD_eq_getElem?_getD, List.getElem?_eq_getElem (by rw [bytes8_length]; exact hk)]; rfl
theorem pad_is (n : Nat) : pad n = [128] ++ List.replicate (zeros n) 0 ++ bytes8 n := by
  unfold pad bytes8; simp
theorem Own.form {w : World} {base : Nat} {v : Value} {l : List UInt8} (h : Own w base v l) (hn : 0 < l.length) : ∃ g cap, v = .slice (some ⟨g, 0, none⟩) l.length cap ∧ base ≤ g ∧ g < w.heap.size := World.ownsRow.form h hn
theorem own_one (w : World) (base : Nat) (hb : base ≤ w.heap.size) : Own (w.alloc (.cells #[.int .u8 128] 5)) base (.slice (some ⟨w.heap.size, 0, none⟩) 1 1) [128] :=
  ⟨rfl, .inr ⟨w.heap.size, 1, _, rfl, hb, heap_alloc_new w _, Nat.le_refl _, by unfold maxLen; omega, rfl, rfl⟩⟩

set_option maxHeartbeats 1000000 in
theorem rpad_any (n : Nat) (h : n ≤ 9223372036854775807) (w : World) : Calls Tryd.prog 57 #[.int .i64 (n : Int)] w fun e w' => e = .returned (.string ⟨(pad n).toArray⟩) ∧ Below w.heap.size w w' := by
  obtain ⟨i0, hi0, hz0, hz1, hz2⟩ := info_parts infoByte
  obtain ⟨r, er⟩ : ∃ r, r = n % 64 := ⟨_, rfl⟩
  have hr : (n : Int) % 64 = (r : Int) := by omega
  have hr64 : r < 64 := by omega
  obtain ⟨z, ez⟩ : ∃ z, z = zeros n := ⟨_, rfl⟩
  have HZ := Lib.hid (show z = (64 - (r + 9) % 64) % 64 from by rw [ez, er]; rfl)
  have hz63 : z ≤ 63 := by rw [ez]; exact zeros_le n
  have EZ := Lib.hid ez
  obtain ⟨Z, eZ⟩ : ∃ Z : Nat, Z = 8 * n % 18446744073709551616 := ⟨_, rfl⟩
  have hZ : IntKind.u64.wrap (8 * (n : Int)) = (Z : Int) := by rw [IntKind.wrap_u64]; omega
  have HZZ := Lib.hid eZ
  clear er ez eZ
  go_enter Tryd.func57, Tryd.ntmps57
  go_wp2_with fail
  go_loopw [3] (fun v wr => ∃ j : Nat, j ≤ z ∧ Own wr w.heap.size v ([128] ++ List.replicate j 0) ∧ Below w.heap.size w wr) (fun v _ => match v with | .slice _ l _ => 100 - l | _ => 0)
  case atStart => exact ⟨0, Nat.zero_le _, own_one w w.heap.size (Nat.le_refl _), (Below.refl _ _).alloc (Nat.le_refl _) _⟩
  case round =>
    obtain ⟨j, hj, hown, hbel⟩ := hrel
    obtain ⟨g, cap, rfl, hg1, hg2⟩ := hown.form (by simp)
    obtain ⟨L, eL⟩ : ∃ L : Nat, L = ([128] ++ List.replicate j (0 : UInt8)).length := ⟨_, rfl⟩
    have hL : L = 1 + j := by rw [eL]; simp; omega
    rw [← eL] at hown
    rw [← eL]
    have HO := Lib.hid hown
    have HB := Lib.hid hbel
    have hsz := hbel.size
    obtain ⟨Xs, eX⟩ : ∃ Xs : List Value, Xs = byteVs ([128] ++ List.replicate j 0) := ⟨_, rfl⟩
    have HOk := Lib.hid (show wr.ownsRow w.heap.size 5 1 (Value.slice (some ⟨g, 0, none⟩) L cap) L Xs from by have := hown; unfold Own at this; rw [← eL] at this; rw [eX]; exact this)
    have EX := Lib.hid eX
    have HL := Lib.hid hL
    have hL1 : L ≤ 100 := by omega
    clear hown hbel eX eL hL
    by_cases hlt : j < z
    · have hc : (((r : Int) + (L : Int) + 8) % 64 != 0) = true := by rw [bne_iff_ne]; have := HZ.out; have := HL.out; omega
      go_wp2_with (at_builtin; refine wpList_append_own _ rfl (.tmp 17) (.tmp 18) 54 rfl w.heap.size 5 i0 (.int .u8 0) 1 1 Tryd.underlying54 hi0 hz0 hz1 hz2 rfl (by decide) _ _ _ rfl (HOk.out.alloc _) ⟨wr.heap.size, 0, none⟩ 1 1 [byteV 0] rfl rfl ?c1 ?c2 ?c3 ?c4 ?c5 ?_)
      case c1 => intro j u hj; exact new_cell _ _ _ hj
      case c2 => intro u hu; simp at hu; subst hu; rfl
      case c3 => unfold maxLen; omega
      case c4 => omega
      case c5 => simp; omega
      intro v' w1 hown1 hgrow _
      have hN := (show Own w1 w.heap.size v' ([128] ++ List.replicate (j + 1) 0) from by
        have hl1 : ([128] ++ List.replicate j (0 : UInt8)).length = L := by rw [HL.out]; simp; omega
        unfold Own
        rw [List.replicate_succ', ← List.append_assoc, List.length_append, byteVs_append, ← EX.out, hl1]
        exact hown1)
      have HBn := Lib.hid ((HB.out.alloc hsz _).grown hgrow (by simp; omega) (fun k' hk' => (HOk.out.lt k' hk').1))
      obtain ⟨g', cap', rfl, _, _⟩ := hN.form (by simp)
      have HN := Lib.hid hN
      clear hown1 hgrow hN
      go_wp2_with fail
      go_roundw
      case rel => exact ⟨j + 1, by omega, HN.out, HBn.out⟩
      case measure => have := HL.out; simp; omega
    · have hjz : j = z := by omega
      have hc : (((r : Int) + (L : Int) + 8) % 64 != 0) = false := by rw [bne_eq_false_iff_eq]; have := HZ.out; have := HL.out; omega
      have HJ := Lib.hid hjz
      clear hjz
      obtain ⟨wo, ewo⟩ : ∃ wo : World, wo = wr := ⟨_, rfl⟩
      subst ewo
      go_wp2_with fail
      go_loopw [3, 5] (fun v i wq => ∃ k : Nat, k ≤ 8 ∧ i = .int .i64 (7 - (k : Int)) ∧ Own wq w.heap.size v ([128] ++ List.replicate z 0 ++ (bytes8 n).take k) ∧ Below w.heap.size w wq) (fun _ i _ => (intOf i + 1).toNat)
      case atStart => exact ⟨0, by omega, rfl, by rw [← HJ.out]; simpa using HO.out, HB.out⟩
      case round =>
        clear HO HB HOk hc EX hsz hr
        obtain ⟨k, hk, rfl, hown, hbel⟩ := hrel
        have HO := Lib.hid hown
        have HB := Lib.hid hbel
        have hsz := hbel.size
        by_cases hlt : k < 8
        · obtain ⟨m, em⟩ : ∃ m : Nat, m = 7 - k := ⟨_, rfl⟩
          have em2 : 7 - (k : Int) = (m : Int) := by omega
          have EM := Lib.hid em
          rw [em2]
          obtain ⟨c, ec⟩ : ∃ c : UInt8, c = (bytes8 n).getD k 0 := ⟨_, rfl⟩
          have hcb : (Z : Int) / 2 ^ (8 * m) % 256 = (c.toNat : Int) := by
            rw [ec, bytes8_get n k hlt, HZZ.out, em]; rfl
          have hcw : IntKind.u8.wrap ((Z : Int) / 2 ^ (8 * m)) = (c.toNat : Int) := by rw [IntKind.wrap_u8', hcb]
          have hlk : ([128] ++ List.replicate z (0 : UInt8) ++ (bytes8 n).take k).length = 1 + z + k := by
            rw [List.length_append, List.length_append, List.length_replicate, List.length_take, bytes8_length]
            simp only [List.length_cons, List.length_nil]
            omega
          obtain ⟨L, eL⟩ : ∃ L : Nat, L = 1 + z + k := ⟨_, rfl⟩
          obtain ⟨Xs, eX⟩ : ∃ Xs : List Value, Xs = byteVs ([128] ++ List.replicate z 0 ++ (bytes8 n).take k) := ⟨_, rfl⟩
          have HOk := Lib.hid (show wr.ownsRow w.heap.size 5 1 u3 L Xs from by have := hown; unfold Own at this; rw [hlk] at this; rw [eX, eL]; exact this)
          have EX := Lib.hid eX
          have EC := Lib.hid ec
          have HLK := Lib.hid hlk
          have hL : L ≤ 100 := by omega
          have EL := Lib.hid eL
          have hm7 : m ≤ 7 := by omega
          have hm8 : (8 * (m : Int)).toNat = 8 * m := by omega
          have hm0 : (0 : Int) ≤ 8 * (m : Int) := by omega
          have hm64 : 8 * (m : Int) < 64 := by omega
          clear hown hbel em ec eX eL hlk em2
          go_wp2_with (at_builtin; refine wpList_append_own _ rfl (.tmp 27) (.tmp 33) 54 rfl w.heap.size 5 i0 (.int .u8 0) 1 1 Tryd.underlying54 hi0 hz0 hz1 hz2 rfl (by decide) _ _ _ rfl (HOk.out.alloc _) ⟨wr.heap.size, 0, none⟩ 1 1 [byteV c] rfl rfl ?c1 ?c2 ?c3 ?c4 ?c5 ?_)
          case c1 => intro j u hj; exact new_cell _ _ _ hj
          case c2 => intro u hu; simp at hu; subst hu; rfl
          case c3 => unfold maxLen; omega
          case c4 => omega
          case c5 => simp; omega
          intro v' w1 hown1 hgrow _
          have HN := Lib.hid (show Own w1 w.heap.size v' ([128] ++ List.replicate z 0 ++ (bytes8 n).take (k + 1)) from by
            unfold Own
            rw [bytes8_succ n k hlt, ← List.append_assoc, List.length_append, byteVs_append, ← EX.out, HLK.out, ← EL.out, ← EC.out]
            exact hown1)
          have HBn := Lib.hid ((HB.out.alloc hsz _).grown hgrow (by simp; omega) (fun k' hk' => (HOk.out.lt k' hk').1))
          have em3 : (m : Int) - 1 = 7 - ((k + 1 : Nat) : Int) := by have := EM.out; omega
          clear hown1 hgrow
          go_wp2_with fail
          go_roundw
          case rel => exact ⟨k + 1, by omega, by go_num, HN.out, HBn.out⟩
          case measure => simp [intOf]; omega
        · have hk8 : k = 8 := by omega
          have hall := (show Own wr w.heap.size u3 (pad n) from by
            rw [pad_is, ← EZ.out]
            rw [hk8] at hown
            exact hown)
          have hconv := run_text_of_own hall
          have hki : ¬ (0 : Int) ≤ 7 - (k : Int) := by omega
          clear hown hbel hall hk8
          go_wp2_with fail
          go_ret
          exact ⟨rfl, HB.out⟩

end Go.Proofs.YtdkjlijmejleoaaDoor.Sp
