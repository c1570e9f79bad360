/- What the rows share that list the document's own tables too: the tables out of the row's list, a world for the witness. -/
import Derived.Test.YtnkkckmejjcfkaaGreatDoorGzI
import Derived.Test.YtnkkckmejjcfkaaGreatDoorShaRefB
import Derived.Stop.LaidErr
import Derived.Deep.AppendLies
import Derived.Test.YtnkkckmejjcfkaaGreatDoorGzD
namespace Go.Proofs.YtnkkckmejjcfkaaGreatDoor.Sp
open Go Go.ChangeShapes Go.WideShapes Go.ChangeAt Go.RowKit

theorem gK : Tryz.prog.globalNamed "voussoir/voussoirref01.k" = some 2 := by kernel_rfl
theorem gKType : (Tryz.prog.globals[2]?).map (·.type) = some 116 := by kernel_rfl
theorem gFirst : Tryz.prog.globalNamed "voussoir/voussoirref01.first" = some 1 := by kernel_rfl
theorem gFirstType : (Tryz.prog.globals[1]?).map (·.type) = some 101 := by kernel_rfl
theorem cellsOf8 : Tryz.prog.cellsOf 101 = 8 := by kernel_rfl
def fInts : List Int := [1779033703, 3144134277, 1013904242, 2773480762, 1359893119, 2600822924, 528734635, 1541459225]
theorem fInts_get (i : Nat) (hi : i < 8) : fInts.getD i 0 = U (gW st0.ws i) := by
  have key : ∀ m : Fin 8, fInts.getD m.val 0 = U (gW st0.ws m.val) := by decide +kernel
  exact key ⟨i, hi⟩

/-- The document's own first state, as it lies in memory. -/
def FTab (w : World) : Prop := ∀ i, i < 8 → w.cell? ⟨1, i, none⟩ = some (.int .u32 (U (gW st0.ws i)))
theorem FTab.lt {w : World} (h : FTab w) : 1 < w.heap.size := block_lt_of_cell (h 0 (by omega))
theorem FTab.below {w w' : World} {B : Nat} (h : FTab w) (hb : Below B w w') (hB : 1 < B) : FTab w' := fun i hi => (hb.cell (p := ⟨1, i, none⟩) hB).trans (h i hi)

theorem ktab_of {W : World} {x : String × DataW Unit} {rest : List (String × DataW Unit)} (h : laidMet Tryz.prog (x :: ("voussoir/voussoirref01.k", Rows.laid_voussoir_voussoirref01_k) :: rest) W) : KTab W := by
  have ht : Lib.TabIs Tryz.prog W "voussoir/voussoirref01.k" .u32 kInts := Lib.tabIs_of_head gK gKType Tryz.underlying116 Tryz.underlying100 cellsOf1 cellsOf64 h.tail
  intro i hi
  rw [ht.cell gK i hi, kInts_get i hi]
theorem ftab_of {W : World} {x y : String × DataW Unit} {rest : List (String × DataW Unit)} (h : laidMet Tryz.prog (x :: y :: ("voussoir/voussoirref01.first", Rows.laid_voussoir_voussoirref01_first) :: rest) W) : FTab W := by
  have ht : Lib.TabIs Tryz.prog W "voussoir/voussoirref01.first" .u32 fInts := Lib.tabIs_of_head gFirst gFirstType Tryz.underlying101 Tryz.underlying100 cellsOf1 cellsOf8 h.tail.tail
  intro i hi
  rw [ht.cell gFirst i hi, fInts_get i hi]

/-- A world for the witness: the settled one, the three tables holding what their initialisers lay. -/
noncomputable def laidWorld3 (os : Os) : World :=
  { laidWorld os with heap := ((laidWorld os).heap.modify 2 fun
      | .cells _ t frozen => .cells (kInts.map fun z => Value.int .u32 z).toArray t frozen
      | o => o).modify 1 fun
      | .cells _ t frozen => .cells (fInts.map fun z => Value.int .u32 z).toArray t frozen
      | o => o }
end Go.Proofs.YtnkkckmejjcfkaaGreatDoor.Sp

/- The document's own answer for package sha: the padding. -/
namespace Go.Proofs.YtnkkckmejjcfkaaGreatDoor.Sp
open Go Go.RowKit
set_option maxRecDepth 100000

theorem rpad_neg (n : Int) (h : n < 0) (w : World) : Calls Tryz.prog 89 #[.int .i64 n] w fun e w' => e = .returned (.string ⟨#[]⟩) ∧ w = w' := by
  go_enter Tryz.func89, Tryz.ntmps89
  go_wp2
  go_ret
  exact ⟨rfl, rfl⟩

/-- The eight bytes of the length. -/
def bytes8 (n : Nat) : List UInt8 := bytes4 (BitVec.ofNat 32 (8 * n / 4294967296)) ++ bytes4 (BitVec.ofNat 32 (8 * n))
theorem bytes8_length (n : Nat) : (bytes8 n).length = 8 := rfl
theorem lowB_nat (x : W) : ((lowB x).toNat : Int) = ((x.toNat % 256 : Nat) : Int) := by
  unfold lowB; rw [UInt8.toNat_ofNat']
theorem bytes8_get (n : Nat) (k : Nat) (hk : k < 8) : (((bytes8 n).getD k 0).toNat : Int) = ((8 * n % 18446744073709551616 / 2 ^ (8 * (7 - k)) % 256 : Nat) : Int) := by
  rcases k with _ | _ | _ | _ | _ | _ | _ | _ | k
  all_goals first
    | omega
    | (simp only [bytes8, bytes4, List.cons_append, List.nil_append, List.getD_cons_zero, List.getD_cons_succ]
       rw [lowB_nat]
       simp only [BitVec.toNat_ushiftRight, BitVec.toNat_ofNat, Nat.shiftRight_eq_div_pow]
       simp only [Nat.reduceSub, Nat.reduceMul, Nat.reducePow, Nat.reduceAdd, Nat.zero_add, Nat.sub_zero]
       omega)
theorem bytes8_succ (n k : Nat) (hk : k < 8) : (bytes8 n).take (k + 1) = (bytes8 n).take k ++ [(bytes8 n).getD k 0] := by
  rw [List.take_succ_eq_append_getElem (by rw [bytes8_length]; exact hk), List.getD_eq_getElem?_getD, List.getElem?_eq_getElem (by rw [bytes8_length]; exact hk)]; rfl
theorem pad_is (n : Nat) : pad n = [128] ++ List.replicate (zeros n) 0 ++ bytes8 n := by
  unfold pad bytes8; simp
theorem Own.form {w : World} {base : Nat} {v : Value} {l : List UInt8} (h : Own w base v l) (hn : 0 < l.length) : ∃ g cap, v = .slice (some ⟨g, 0, none⟩) l.length cap ∧ base ≤ g ∧ g < w.heap.size := World.ownsRow.form h hn
theorem own_one (w : World) (base : Nat) (hb : base ≤ w.heap.size) : Own (w.alloc (.cells #[.int .u8 128] 5)) base (.slice (some ⟨w.heap.size, 0, none⟩) 1 1) [128] :=
  ⟨rfl, .inr ⟨w.heap.size, 1, _, rfl, hb, heap_alloc_new w _, Nat.le_refl _, by unfold maxLen; omega, rfl, rfl⟩⟩

set_option maxHeartbeats 1000000 in
theorem rpad_any (n : Nat) (h : n ≤ 9223372036854775807) (w : World) : Calls Tryz.prog 89 #[.int .i64 (n : Int)] w fun e w' => e = .returned (.string ⟨(pad n).toArray⟩) ∧ Below w.heap.size w w' := by
  obtain ⟨i0, hi0, hz0, hz1, hz2⟩ := info_parts infoByte
  obtain ⟨r, er⟩ : ∃ r, r = n % 64 := ⟨_, rfl⟩
  have hr : (n : Int) % 64 = (r : Int) := by omega
  have hr64 : r < 64 := by omega
  obtain ⟨z, ez⟩ : ∃ z, z = zeros n := ⟨_, rfl⟩
  have HZ := Lib.hid (show z = (64 - (r + 9) % 64) % 64 from by rw [ez, er]; rfl)
  have hz63 : z ≤ 63 := by rw [ez]; exact zeros_le n
  have EZ := Lib.hid ez
  obtain ⟨Z, eZ⟩ : ∃ Z : Nat, Z = 8 * n % 18446744073709551616 := ⟨_, rfl⟩
  have hZ : IntKind.u64.wrap (8 * (n : Int)) = (Z : Int) := by rw [IntKind.wrap_u64]; omega
  have HZZ := Lib.hid eZ
  clear er ez eZ
  go_enter Tryz.func89, Tryz.ntmps89
  go_wp2_with fail
  go_loopw [3] (fun v wr => ∃ j : Nat, j ≤ z ∧ Own wr w.heap.size v ([128] ++ List.replicate j 0) ∧ Below w.heap.size w wr) (fun v _ => match v with | .slice _ l _ => 100 - l | _ => 0)
  case atStart => exact ⟨0, Nat.zero_le _, own_one w w.heap.size (Nat.le_refl _), (Below.refl _ _).alloc (Nat.le_refl _) _⟩
  case round =>
    obtain ⟨j, hj, hown, hbel⟩ := hrel
    obtain ⟨g, cap, rfl, hg1, hg2⟩ := hown.form (by simp)
    obtain ⟨L, eL⟩ : ∃ L : Nat, L = ([128] ++ List.replicate j (0 : UInt8)).length := ⟨_, rfl⟩
    have hL : L = 1 + j := by rw [eL]; simp; omega
    rw [← eL] at hown
    rw [← eL]
    have HO := Lib.hid hown
    have HB := Lib.hid hbel
    have hsz := hbel.size
    obtain ⟨Xs, eX⟩ : ∃ Xs : List Value, Xs = byteVs ([128] ++ List.replicate j 0) := ⟨_, rfl⟩
    have HOk := Lib.hid (show wr.ownsRow w.heap.size 5 1 (Value.slice (some ⟨g, 0, none⟩) L cap) L Xs from by have := hown; unfold Own at this; rw [← eL] at this; rw [eX]; exact this)
    have EX := Lib.hid eX
    have HL := Lib.hid hL
    have hL1 : L ≤ 100 := by omega
    clear hown hbel eX eL hL
    by_cases hlt : j < z
    · have hc : (((r : Int) + (L : Int) + 8) % 64 != 0) = true := by rw [bne_iff_ne]; have := HZ.out; have := HL.out; omega
      go_wp2_with (at_builtin; refine wpList_append_own _ rfl (.tmp 17) (.tmp 18) 62 rfl w.heap.size 5 i0 (.int .u8 0) 1 1 Tryz.underlying62 hi0 hz0 hz1 hz2 rfl (by decide) _ _ _ rfl (HOk.out.alloc _) ⟨wr.heap.size, 0, none⟩ 1 1 [byteV 0] rfl rfl ?c1 ?c2 ?c3 ?c4 ?c5 ?_)
      case c1 => intro j u hj; exact new_cell _ _ _ hj
      case c2 => intro u hu; simp at hu; subst hu; rfl
      case c3 => unfold maxLen; omega
      case c4 => omega
      case c5 => simp; omega
      intro v' w1 hown1 hgrow _
      have hN := (show Own w1 w.heap.size v' ([128] ++ List.replicate (j + 1) 0) from by
        have hl1 : ([128] ++ List.replicate j (0 : UInt8)).length = L := by rw [HL.out]; simp; omega
        unfold Own
        rw [List.replicate_succ', ← List.append_assoc, List.length_append, byteVs_append, ← EX.out, hl1]
        exact hown1)
      have HBn := Lib.hid ((HB.out.alloc hsz _).grown hgrow (by simp; omega) (fun k' hk' => (HOk.out.lt k' hk').1))
      obtain ⟨g', cap', rfl, _, _⟩ := hN.form (by simp)
      have HN := Lib.hid hN
      clear hown1 hgrow hN
      go_wp2_with fail
      go_roundw
      case rel => exact ⟨j + 1, by omega, HN.out, HBn.out⟩
      case measure => have := HL.out; simp; omega
    · have hjz : j = z := by omega
      have hc : (((r : Int) + (L : Int) + 8) % 64 != 0) = false := by rw [bne_eq_false_iff_eq]; have := HZ.out; have := HL.out; omega
      have HJ := Lib.hid hjz
      clear hjz
      obtain ⟨wo, ewo⟩ : ∃ wo : World, wo = wr := ⟨_, rfl⟩
      subst ewo
      go_wp2_with fail
      go_loopw [3, 5] (fun v i wq => ∃ k : Nat, k ≤ 8 ∧ i = .int .i64 (7 - (k : Int)) ∧ Own wq w.heap.size v ([128] ++ List.replicate z 0 ++ (bytes8 n).take k) ∧ Below w.heap.size w wq) (fun _ i _ => (intOf i + 1).toNat)
      case atStart => exact ⟨0, by omega, rfl, by rw [← HJ.out]; simpa using HO.out, HB.out⟩
      case round =>
        clear HO HB HOk hc EX hsz hr
        obtain ⟨k, hk, rfl, hown, hbel⟩ := hrel
        have HO := Lib.hid hown
        have HB := Lib.hid hbel
        have hsz := hbel.size
        by_cases hlt : k < 8
        · obtain ⟨m, em⟩ : ∃ m : Nat, m = 7 - k := ⟨_, rfl⟩
          have em2 : 7 - (k : Int) = (m : Int) := by omega
          have EM := Lib.hid em
          rw [em2]
          obtain ⟨c, ec⟩ : ∃ c : UInt8, c = (bytes8 n).getD k 0 := ⟨_, rfl⟩
          have hcb : (Z : Int) / 2 ^ (8 * m) % 256 = (c.toNat : Int) := by
            rw [ec, bytes8_get n k hlt, HZZ.out, em]; rfl
          have hcw : IntKind.u8.wrap ((Z : Int) / 2 ^ (8 * m)) = (c.toNat : Int) := by rw [IntKind.wrap_u8', hcb]
          have hlk : ([128] ++ List.replicate z (0 : UInt8) ++ (bytes8 n).take k).length = 1 + z + k := by
            rw [List.length_append, List.length_append, List.length_replicate, List.length_take, bytes8_length]
            simp only [List.length_cons, List.length_nil]
            omega
          obtain ⟨L, eL⟩ : ∃ L : Nat, L = 1 + z + k := ⟨_, rfl⟩
          obtain ⟨Xs, eX⟩ : ∃ Xs : List Value, Xs = byteVs ([128] ++ List.replicate z 0 ++ (bytes8 n).take k) := ⟨_, rfl⟩
          have HOk := Lib.hid (show wr.ownsRow w.heap.size 5 1 u3 L Xs from by have := hown; unfold Own at this; rw [hlk] at this; rw [eX, eL]; exact this)
          have EX := Lib.hid eX
          have EC := Lib.hid ec
          have HLK := Lib.hid hlk
          have hL : L ≤ 100 := by omega
          have EL := Lib.hid eL
          have hm7 : m ≤ 7 := by omega
          have hm8 : (8 * (m : Int)).toNat = 8 * m := by omega
          have hm0 : (0 : Int) ≤ 8 * (m : Int) := by omega
          have hm64 : 8 * (m : Int) < 64 := by omega
          clear hown hbel em ec eX eL hlk em2
          go_wp2_with (at_builtin; refine wpList_append_own _ rfl (.tmp 27) (.tmp 33) 62 rfl w.heap.size 5 i0 (.int .u8 0) 1 1 Tryz.underlying62 hi0 hz0 hz1 hz2 rfl (by decide) _ _ _ rfl (HOk.out.alloc _) ⟨wr.heap.size, 0, none⟩ 1 1 [byteV c] rfl rfl ?c1 ?c2 ?c3 ?c4 ?c5 ?_)
          case c1 => intro j u hj; exact new_cell _ _ _ hj
          case c2 => intro u hu; simp at hu; subst hu; rfl
          case c3 => unfold maxLen; omega
          case c4 => omega
          case c5 => simp; omega
          intro v' w1 hown1 hgrow _
          have HN := Lib.hid (show Own w1 w.heap.size v' ([128] ++ List.replicate z 0 ++ (bytes8 n).take (k + 1)) from by
            unfold Own
            rw [bytes8_succ n k hlt, ← List.append_assoc, List.length_append, byteVs_append, ← EX.out, HLK.out, ← EL.out, ← EC.out]
            exact hown1)
          have HBn := Lib.hid ((HB.out.alloc hsz _).grown hgrow (by simp; omega) (fun k' hk' => (HOk.out.lt k' hk').1))
          have em3 : (m : Int) - 1 = 7 - ((k + 1 : Nat) : Int) := by have := EM.out; omega
          clear hown1 hgrow
          go_wp2_with fail
          go_roundw
          case rel => exact ⟨k + 1, by omega, by go_num, HN.out, HBn.out⟩
          case measure => simp [intOf]; omega
        · have hk8 : k = 8 := by omega
          have hall := (show Own wr w.heap.size u3 (pad n) from by
            rw [pad_is, ← EZ.out]
            rw [hk8] at hown
            exact hown)
          have hconv := run_text_of_own hall
          have hki : ¬ (0 : Int) ≤ 7 - (k : Int) := by omega
          clear hown hbel hall hk8
          go_wp2_with fail
          go_ret
          exact ⟨rfl, HB.out⟩

end Go.Proofs.YtnkkckmejjcfkaaGreatDoor.Sp

/- The document's own answer for package sha: First, Sum; Block of a wrong length. -/
namespace Go.Proofs.YtnkkckmejjcfkaaGreatDoor.Sp
open Go Go.RowKit

set_option maxRecDepth 100000 in
theorem rblock_no (s b : ByteArray) (h : ¬ (s.size = 32 ∧ b.size = 64)) (w : World) :
    Calls Tryz.prog 90 #[.string s, .string b] w fun e w' => e = .returned (.string ⟨#[]⟩) ∧ Below w.heap.size w w' := by
  by_cases hs : s.size = 32
  · have hb : ¬ b.size = 64 := fun hb => h ⟨hs, hb⟩
    have g1 : ((s.size : Int) != 32) = false := by rw [hs]; rfl
    have g2 : ((b.size : Int) != 64) = true := by rw [bne_iff_ne]; omega
    clear hs h hb
    go_enter Tryz.func90, Tryz.ntmps90
    go_wp2_with fail
    go_ret
    exact ⟨rfl, Below.refl _ _⟩
  · have g1 : ((s.size : Int) != 32) = true := by rw [bne_iff_ne]; omega
    clear hs h
    go_enter Tryz.func90, Tryz.ntmps90
    go_wp2_with fail
    go_ret
    exact ⟨rfl, Below.refl _ _⟩
theorem textB_enc (T : St) (R : ByteArray) (h : R = ⟨(encode T).toArray⟩) : R = textB T.ws := h

theorem rfirst_any (w : World) (hF : FTab w) (R : ByteArray) (hR : R = textB st0.ws) :
    Calls Tryz.prog 88 #[] w fun e w' => e = .returned (.string R) ∧ Below w.heap.size w w' := by
  have HF := Lib.hid hF
  have HR := Lib.hid hR
  clear hF hR
  go_enter Tryz.func88, Tryz.ntmps88
  go_wp2_with fail
  refine (text_any 1 0 8 8 st0.ws _ ⟨rfl, fun j hj => by rw [Nat.zero_add]; exact HF.out j hj⟩ (by omega)).mono ?_
  rintro e w1 ⟨rfl, hb1⟩
  have B1 := Lib.hid hb1
  clear hb1
  go_wp2_with fail
  go_ret
  exact ⟨ret_text HR.out.symm, B1.out⟩

theorem rpadB (n : Nat) (h : n ≤ 9223372036854775807) (w : World) (P : ByteArray) (hP : P = ⟨(pad n).toArray⟩) :
    Calls Tryz.prog 89 #[.int .i64 (n : Int)] w fun e w' => e = .returned (.string P) ∧ Below w.heap.size w w' := by
  rw [hP]; exact rpad_any n h w

set_option maxHeartbeats 1000000 in
theorem rsum_any (s : ByteArray) (hs : s.size ≤ 9223372036854775000) (w : World) (hK : KTab w) (hF : FTab w) (R : ByteArray) (hR : R = ⟨(sum s.data.toList).toArray⟩) :
    Calls Tryz.prog 80 #[.string s] w fun e w' => e = .returned (.string R) ∧ Below w.heap.size w w' := by
  have HK := Lib.hid hK
  have HF := Lib.hid hF
  have HR := Lib.hid hR
  clear hK hF hR
  obtain ⟨P, eP⟩ : ∃ P : ByteArray, P = ⟨(pad s.size).toArray⟩ := ⟨_, rfl⟩
  have hPs := padB_size s.size P eP
  have hPz := zeros_le s.size
  have hP72 : P.size ≤ 72 := by omega
  have EP := Lib.hid eP
  have HSUM := Lib.hid (show (s.size + P.size) % 64 = 0 from by rw [hPs]; unfold zeros; omega)
  have hadd : ¬ 9223372036854775807 < s.size + P.size := by omega
  obtain ⟨F, eF⟩ : ∃ F : ByteArray, F = textB st0.ws := ⟨_, rfl⟩
  have EF := Lib.hid eF
  clear eP hPs hPz eF
  go_enter Tryz.func80, Tryz.ntmps80
  go_wp2_with fail
  refine (rfirst_any _ HF.out F EF.out).mono ?_
  rintro e w1 ⟨rfl, hb1⟩
  have B1 := Lib.hid hb1
  clear hb1
  go_wp2_with fail
  refine (rpadB s.size (by omega) _ P EP.out).mono ?_
  rintro e w2 ⟨rfl, hb2⟩
  have B2 := Lib.hid (B1.out.trans (hb2.mono B1.out.size))
  clear hb2
  go_upto_region 3 with fail
  obtain ⟨A, eA⟩ : ∃ A : ByteArray, A = s ++ P := ⟨_, rfl⟩
  have hAs : A.size = s.size + P.size := by rw [eA]; simp
  have hAl : A.data.toList = padded s.data.toList := by rw [eA]; unfold padded; rw [EP.out, size_list]; simp
  have HAL := Lib.hid hAl
  have HAS := Lib.hid (show A.size % 64 = 0 from by rw [hAs]; exact HSUM.out)
  have hA1 : A.size ≤ 9223372036854775500 := by omega
  rw [← eA]
  clear eA hAs hAl hadd
  go_wp2_with fail
  go_loopw [3, 5] (fun v i wr => ∃ (j : Nat) (G : ByteArray), v = .string G ∧ i = .int .i64 j ∧ j % 64 = 0 ∧ j ≤ A.size ∧ G = encB (absorb (j / 64) st0 A.data.toList) ∧ Below w.heap.size w wr) (fun _ i _ => A.size - (intOf i).toNat)
  case atStart => exact ⟨0, F, rfl, rfl, rfl, Nat.zero_le _, EF.out, B2.out⟩
  case round =>
    obtain ⟨j, G, rfl, rfl, hj, hjA, hG, hbel⟩ := hrel
    have HJ := Lib.hid hj
    have HG := Lib.hid hG
    have HB := Lib.hid hbel
    clear hG hbel
    have HGS := Lib.hid (show G.size = 32 from by rw [HG.out]; exact encB_size _)
    by_cases hlt : j < A.size
    · have hj64 : j + 64 ≤ A.size := by have := HAS.out; omega
      have hc : (j : Int) + 64 ≤ (A.size : Int) := by omega
      clear hj
      go_wp2_with fail
      obtain ⟨T, eT⟩ : ∃ T : ByteArray, T = ⟨(encode (compress (decode G.data.toList) (A.extract j (j + 64)).data.toList)).toArray⟩ := ⟨_, rfl⟩
      have ET := Lib.hid eT
      have hTn : T = encB (absorb ((j + 64) / 64) st0 A.data.toList) := by
        rw [eT, HG.out]; exact step_block A st0 j HJ.out
      have HTn := Lib.hid hTn
      have HKr := Lib.hid (HK.out.below HB.out HK.out.lt)
      clear eT hTn
      refine (rblock_yes G (A.extract j (j + 64)) HGS.out (by simp; omega) _ HKr.out T (textB_enc _ T ET.out)).mono ?_
      rintro e w4 ⟨rfl, hb4⟩
      have B4 := Lib.hid (HB.out.trans (hb4.mono HB.out.size))
      clear hb4
      go_wp2_with fail
      go_roundw
      case rel => exact ⟨j + 64, T, rfl, by go_num, by have := HJ.out; omega, hj64, HTn.out, B4.out⟩
      case measure => simp [intOf]; omega
    · have hjA2 : j = A.size := by omega
      have hGsum := Lib.hid (show G = R from by rw [HG.out, hjA2, HR.out]; exact sumB s A HAL.out)
      have hc : ¬ (j : Int) + 64 ≤ (A.size : Int) := by omega
      clear hjA2 hj
      go_wp2_with fail
      go_ret
      exact ⟨ret_text hGsum.out, HB.out⟩

end Go.Proofs.YtnkkckmejjcfkaaGreatDoor.Sp

/- The document's own answer for package sha: Input, Tag. -/
namespace Go.Proofs.YtnkkckmejjcfkaaGreatDoor.Sp
open Go Go.RowKit

theorem int_bytes (n : Nat) :
    IntKind.u8.wrap ((n : Int) / 16777216) = ((lowB (BitVec.ofNat 32 n >>> 24)).toNat : Int) ∧ IntKind.u8.wrap ((n : Int) / 65536) = ((lowB (BitVec.ofNat 32 n >>> 16)).toNat : Int) ∧
    IntKind.u8.wrap ((n : Int) / 256) = ((lowB (BitVec.ofNat 32 n >>> 8)).toNat : Int) ∧ IntKind.u8.wrap (n : Int) = ((lowB (BitVec.ofNat 32 n)).toNat : Int) := by
  refine ⟨?_, ?_, ?_, ?_⟩
  all_goals
    rw [lowB_nat, IntKind.wrap_u8']
    simp only [BitVec.toNat_ushiftRight, BitVec.toNat_ofNat, Nat.shiftRight_eq_div_pow, Nat.reducePow]
    omega

set_option maxHeartbeats 2000000 in
theorem rinput_any (d : UInt8) (a : Option Addr) (n c : Nat) (ss : List ByteArray) (w : World) (h : Strs w a n ss) (hn : n ≤ 9223372036854775807) (hlen : len2 ss n ≤ 281474976710656) (I : ByteArray) (hI : I = ⟨(inB d ss).toArray⟩) :
    Calls Tryz.prog 30 #[.int .u8 (d.toNat : Int), .slice a n c] w fun e w' => e = .returned (.string I) ∧ Below w.heap.size w w' := by
  have HH := Lib.hid h
  have HN := Lib.hid h.1
  have HI := Lib.hid hI
  have HLEN := Lib.hid hlen
  clear h hI hlen
  have hc0 := run_text_of_blk (cap := 1) (l := [d]) (n := 1) (heap_alloc_new w (.cells #[Value.int .u8 (d.toNat : Int)] 5)) rfl
  go_enter Tryz.func30, Tryz.ntmps30
  go_wp2_with fail
  clear hc0
  go_loopw [5, 6] (fun v i wr => ∃ (k : Nat) (G : ByteArray), k ≤ n ∧ v = .string G ∧ G.data.toList = inp d ss k ∧ i = .int .i64 (k : Int) ∧ Below w.heap.size w wr) (fun _ i _ => n - (intOf i).toNat)
  case atStart => exact ⟨0, _, Nat.zero_le _, rfl, rfl, rfl, (Below.refl _ _).alloc (Nat.le_refl _) _⟩
  case round =>
    obtain ⟨k, G, hk, rfl, hG, rfl, hbel⟩ := hrel
    have HG := Lib.hid hG
    have HB := Lib.hid hbel
    have hsz := hbel.size
    clear hG hbel
    by_cases hlt : k < n
    · obtain ⟨b, off, rfl, hc⟩ := HH.out.2 (by omega)
      obtain ⟨S, eS⟩ : ∃ S, S = ss.getD k ByteArray.empty := ⟨_, rfl⟩
      have hcell0 := hc k hlt
      have hcell : wr.cell? ⟨b, off + k, none⟩ = some (.string S) := by
        rw [eS]; exact (HB.out.cell (p := ⟨b, off + k, none⟩) (block_lt_of_cell hcell0)).trans hcell0
      have hbw : b < wr.heap.size := block_lt_of_cell hcell
      have hs2 : len2 ss (k + 1) = len2 ss k + (4 + S.size) := by rw [eS]; exact len2_succ ss k (by rw [HN.out]; exact hlt)
      have hm2 := len2_mono ss (k + 1) n (by omega)
      have hGl : G.size = len2 ss k := by rw [← size_list, HG.out, inp_length]
      have hLE := HLEN.out
      obtain ⟨B4, e4⟩ : ∃ B4 : ByteArray, B4 = ⟨(bytes4 (BitVec.ofNat 32 S.size)).toArray⟩ := ⟨_, rfl⟩
      have h4 : B4.size = 4 := by rw [e4]; rfl
      have ha1 : ¬ 9223372036854775807 < G.size + B4.size := by omega
      have ha2 : ¬ 9223372036854775807 < G.size + B4.size + S.size := by omega
      have hss : S.size ≤ 9223372036854775807 := by omega
      have hsucc := Lib.hid (show (G ++ B4 ++ S).data.toList = inp d ss (k + 1) from by
        rw [inp_succ d ss k (by rw [HN.out]; exact hlt), ← HG.out, ← eS]
        simp [e4])
      obtain ⟨i1, i2, i3, i4⟩ := int_bytes S.size
      have hcv := run_text_of_blk (cap := 4) (l := bytes4 (BitVec.ofNat 32 S.size)) (n := 4) (heap_alloc_new wr (.cells #[Value.int .u8 ((lowB (BitVec.ofNat 32 S.size >>> 24)).toNat : Int), Value.int .u8 ((lowB (BitVec.ofNat 32 S.size >>> 16)).toNat : Int), Value.int .u8 ((lowB (BitVec.ofNat 32 S.size >>> 8)).toNat : Int), Value.int .u8 ((lowB (BitVec.ofNat 32 S.size)).toNat : Int)] 5)) rfl
      have hcv2 := run_text_of_blk (cap := 4) (l := bytes4 (BitVec.ofNat 32 S.size)) (n := 4) (w := (wr.alloc (.cells #[Value.int .u8 ((lowB (BitVec.ofNat 32 S.size >>> 24)).toNat : Int), Value.int .u8 ((lowB (BitVec.ofNat 32 S.size >>> 16)).toNat : Int), Value.int .u8 ((lowB (BitVec.ofNat 32 S.size >>> 8)).toNat : Int), Value.int .u8 ((lowB (BitVec.ofNat 32 S.size)).toNat : Int)] 5)).drew) (g := wr.heap.size) (Blk.drew (heap_alloc_new wr _)) rfl
      rw [← e4] at hcv hcv2
      have E4 := Lib.hid e4
      clear e4 h4 hs2 hm2 hc eS hcell0 hGl hLE
      go_wp2_with fail
      go_region_law ((fail))
      all_goals
        obtain ⟨GN, eGN⟩ : ∃ GN : ByteArray, GN = G ++ B4 ++ S := ⟨_, rfl⟩
        have HGN := Lib.hid (show GN.data.toList = inp d ss (k + 1) from by rw [eGN]; exact hsucc.out)
        have HBn := Lib.hid (HB.out.alloc hsz (.cells #[Value.int .u8 ((lowB (BitVec.ofNat 32 S.size >>> 24)).toNat : Int), Value.int .u8 ((lowB (BitVec.ofNat 32 S.size >>> 16)).toNat : Int), Value.int .u8 ((lowB (BitVec.ofNat 32 S.size >>> 8)).toNat : Int), Value.int .u8 ((lowB (BitVec.ofNat 32 S.size)).toNat : Int)] 5)).drew
        rw [← eGN]
        clear hcv hcv2 eGN i1 i2 i3 i4 ha1 ha2
        go_wp2_with fail
        go_roundw
        case rel => exact ⟨k + 1, GN, by omega, rfl, HGN.out, by go_num, HBn.out⟩
        case measure => simp [intOf]; omega
    · have hkn : k = n := by omega
      have hGI := Lib.hid (show G = I from by
        rw [HI.out, ← inp_all, HN.out, ← hkn, ← HG.out])
      have hki : ¬ (k : Int) < (n : Int) := by omega
      clear hkn
      go_wp2_with fail
      go_ret
      exact ⟨ret_text hGI.out, HB.out⟩

theorem rsumB (b : ByteArray) (hs : b.size ≤ 9223372036854775000) (w : World) (hK : KTab w) (hF : FTab w) (R : ByteArray) (hR : R = ⟨(sum b.data.toList).toArray⟩) :
    Calls Tryz.prog 80 #[.string b] w fun e w' => e = .returned (.string R) ∧ Below w.heap.size w w' := rsum_any b hs w hK hF R hR

/-- Tag is the sum of the input. -/
theorem rtag_any (d : UInt8) (a : Option Addr) (n c : Nat) (ss : List ByteArray) (w : World) (h : Strs w a n ss) (hn : n ≤ 9223372036854775807) (hlen : len2 ss n ≤ 281474976710656) (hK : KTab w) (hF : FTab w) (R : ByteArray) (hR : R = ⟨(sum (inB d ss)).toArray⟩) :
    Calls Tryz.prog 62 #[.int .u8 (d.toNat : Int), .slice a n c] w fun e w' => e = .returned (.string R) ∧ Below w.heap.size w w' := by
  have HH := Lib.hid h
  have HK := Lib.hid hK
  have HF := Lib.hid hF
  obtain ⟨I, eI⟩ : ∃ I : ByteArray, I = ⟨(inB d ss).toArray⟩ := ⟨_, rfl⟩
  have hIl : I.data.toList = inB d ss := by rw [eI]
  have hIs : I.size ≤ 281474976710656 := by rw [← size_list, hIl, ← inp_all, inp_length, h.1]; exact hlen
  have EI := Lib.hid eI
  have HR := Lib.hid (show R = ⟨(sum I.data.toList).toArray⟩ from by rw [hIl]; exact hR)
  clear h hK hF eI hIl hR
  go_enter Tryz.func62, Tryz.ntmps62
  go_wp2_with fail
  refine (rinput_any d a n c ss _ HH.out hn hlen I EI.out).mono ?_
  rintro e w1 ⟨rfl, hb1⟩
  have B1 := Lib.hid hb1
  have HK1 := Lib.hid (HK.out.below hb1 HK.out.lt)
  have HF1 := Lib.hid (HF.out.below hb1 HF.out.lt)
  clear hb1
  go_wp2_with fail
  refine (rsum_any I (by omega) _ HK1.out HF1.out R HR.out).mono ?_
  rintro e w2 ⟨rfl, hb2⟩
  have B2 := Lib.hid (B1.out.trans (hb2.mono B1.out.size))
  clear hb2
  go_wp2_with fail
  go_ret
  exact ⟨rfl, B2.out⟩

end Go.Proofs.YtnkkckmejjcfkaaGreatDoor.Sp

/- Package sha: the tables of the document's own answer, and its Tag at any list of texts; texts in a block. -/
namespace Go.Proofs.YtnkkckmejjcfkaaGreatDoor.Sp
open Go Go.RowKit

theorem strs_blk {w : World} {g : Nat} {t : TypeId} {ss : List ByteArray} {n : Nat} (h : Blk w g t (ss.map Value.string).toArray) (hn : ss.length = n) : Strs w (some ⟨g, 0, none⟩) n ss := by
  refine ⟨hn, fun _ => ⟨g, 0, rfl, fun j hj => ?_⟩⟩
  have hj' : j < ss.length := by omega
  rw [h.cell]
  simp [List.getD, hj']
/-- The tables of the document's own answer. -/
def Tabs (w : World) : Prop := KTab w ∧ FTab w
theorem Tabs.below {w w' : World} (h : Tabs w) (hb : Below w.heap.size w w') : Tabs w' := ⟨h.1.below hb h.1.lt, h.2.below hb h.2.lt⟩
theorem Tabs.alloc {w : World} (h : Tabs w) (o : Obj) : Tabs (w.alloc o) := h.below ((Below.refl _ _).alloc (Nat.le_refl _) o)

theorem qtag_any (d : Nat) (hd : d < 256) (g : Nat) (n c : Nat) (ss : List ByteArray) (w : World) (h : Strs w (some ⟨g, 0, none⟩) n ss) (hn : n ≤ 9223372036854775807) (hlen : len2 ss n ≤ 281474976710656) (hT : Tabs w) (R : ByteArray) (hR : R = ⟨(sum (inB (UInt8.ofNat d) ss)).toArray⟩) :
    Calls Tryz.prog 62 #[.int .u8 (d : Int), .slice (some ⟨g, 0, none⟩) n c] w fun e w' => e = .returned (.string R) ∧ Below w.heap.size w w' := by
  have h1 := rtag_any (UInt8.ofNat d) (some ⟨g, 0, none⟩) n c ss w h hn hlen hT.1 hT.2 R hR
  have e : ((UInt8.ofNat d).toNat : Int) = (d : Int) := by rw [UInt8.toNat_ofNat']; omega
  rw [e] at h1
  exact h1

theorem qtag_of (d : Nat) (hd : d < 256) (a : Option Addr) (n c : Nat) (ss : List ByteArray) (w : World) (h : Strs w a n ss) (hn : n ≤ 9223372036854775807) (hlen : len2 ss n ≤ 281474976710656) (hT : Tabs w) (R : ByteArray) (hR : R = ⟨(sum (inB (UInt8.ofNat d) ss)).toArray⟩) :
    Calls Tryz.prog 62 #[.int .u8 (d : Int), .slice a n c] w fun e w' => e = .returned (.string R) ∧ Below w.heap.size w w' := by
  have h1 := rtag_any (UInt8.ofNat d) a n c ss w h hn hlen hT.1 hT.2 R hR
  have e : ((UInt8.ofNat d).toNat : Int) = (d : Int) := by rw [UInt8.toNat_ofNat']; omega
  rw [e] at h1
  exact h1
theorem Tabs.drew_ {w : World} (h : Tabs w) : Tabs w.drew := h
end Go.Proofs.YtnkkckmejjcfkaaGreatDoor.Sp
