/- The walk of CodecOrder. -/
import Derived.Test.YtecamidkcdaopaaCodSem
import Derived.Deep.DeepCutAuto
import Derived.ScopeJumps
import Derived.WalkMore
import Derived.BigQuiet
import Derived.Deep.QuietTactic
namespace Go.Proofs.Ytecamidkcdaopaa.Sp
open Go Go.RowKit

theorem less_pre (p x y : List UInt8) : Op.bytesLess (p ++ x) (p ++ y) = Op.bytesLess x y := by
  induction p with
  | nil => rfl
  | cons a p ih =>
    simp only [List.cons_append, Op.bytesLess, ih]
    simp
theorem less_be (k : Nat) : ∀ a b, a < 256 ^ k → b < 256 ^ k → Op.bytesLess (be k a) (be k b) = decide (a < b) := by
  induction k with
  | zero => intro a b ha hb; simp at ha hb; subst ha; subst hb; rfl
  | succ k ih =>
    intro a b ha hb
    have hp : 0 < 256 ^ k := Nat.pos_of_ne_zero (by simp)
    have ih' := ih (a % 256 ^ k) (b % 256 ^ k) (Nat.mod_lt _ hp) (Nat.mod_lt _ hp)
    rw [be_mod k a k (Nat.le_refl _), be_mod k b k (Nat.le_refl _)] at ih'
    have ea := Nat.div_add_mod a (256 ^ k)
    have eb := Nat.div_add_mod b (256 ^ k)
    have qa : a / 256 ^ k < 256 := Nat.div_lt_of_lt_mul (by rw [← Nat.pow_succ]; exact ha)
    have qb : b / 256 ^ k < 256 := Nat.div_lt_of_lt_mul (by rw [← Nat.pow_succ]; exact hb)
    have ra := Nat.mod_lt a hp
    have rb := Nat.mod_lt b hp
    rw [be, be]
    simp only [Op.bytesLess, ih']
    have h1 : (UInt8.ofNat (a / 256 ^ k) < UInt8.ofNat (b / 256 ^ k)) ↔ a / 256 ^ k < b / 256 ^ k := by
      rw [UInt8.lt_iff_toNat_lt, UInt8.toNat_ofNat', UInt8.toNat_ofNat', Nat.mod_eq_of_lt qa, Nat.mod_eq_of_lt qb]
    have h2 : (UInt8.ofNat (a / 256 ^ k) = UInt8.ofNat (b / 256 ^ k)) ↔ a / 256 ^ k = b / 256 ^ k := by
      rw [← UInt8.toNat_inj, UInt8.toNat_ofNat', UInt8.toNat_ofNat', Nat.mod_eq_of_lt qa, Nat.mod_eq_of_lt qb]
    generalize 256 ^ k = M at *
    generalize a / M = x at *
    generalize b / M = y at *
    generalize a % M = u at *
    generalize b % M = v at *
    rw [Bool.eq_iff_iff]
    simp only [Bool.or_eq_true, Bool.and_eq_true, decide_eq_true_iff, beq_iff_eq, h1, h2]
    constructor
    · rintro (h | ⟨h, h'⟩)
      · have : M * (x + 1) ≤ M * y := Nat.mul_le_mul_left _ h
        rw [Nat.mul_add] at this; omega
      · subst h; omega
    · intro h
      rcases Nat.lt_trichotomy x y with hxy | hxy | hxy
      · exact .inl hxy
      · subst hxy; exact .inr ⟨rfl, by omega⟩
      · have : M * (y + 1) ≤ M * x := Nat.mul_le_mul_left _ hxy
        rw [Nat.mul_add] at this; omega

theorem laid_one (x : It) (w : World) (b c : Nat) (h : Blk w b 28 #[.bool x.t, .int .u64 (x.n : Int), .string x.s]) (hx : x.n < 18446744073709551616) (hl : x.long ≤ 140737488355328) (R : ByteArray) (hR : R.data.toList = enc x) :
    Calls Try.prog 16 #[.slice (some ⟨b, 0, none⟩) 1 c] w fun e w' => e = .returned (.string R) ∧ Below w.heap.size w w' := by
  have hI : Items w (some ⟨b, 0, none⟩) 1 [x] := by
    refine ⟨rfl, fun _ => ⟨b, 0, rfl, fun j hj k hk => ?_⟩⟩
    rw [h.cell]
    match j, k, hj, hk with
    | 0, 0, _, _ => rfl
    | 0, 1, _, _ => rfl
    | 0, 2, _, _ => rfl
  refine (laid_any _ 1 c [x] (by intro y hy; simp at hy; subst hy; exact hx) w hI (by omega) (by simp [laidLen]; exact hl)).mono ?_
  rintro e w' ⟨rfl, hb⟩
  refine ⟨ret_text ?_, hb⟩
  rw [of_list hR]; simp [laid]

set_option maxHeartbeats 2000000 in
set_option maxRecDepth 100000 in
theorem order_law (a b : Nat) (s t : ByteArray) (ha : a < 18446744073709551616) (hb : b < 18446744073709551616) (hs : s.size ≤ 9223372036854775807) (ht : t.size ≤ 9223372036854775807) (w : World) :
    Calls Try.prog 11 #[.int .u64 (a : Int), .int .u64 (b : Int), .string s, .string t] w fun e w' => e = .returned (.bool true) ∧ Below w.heap.size w w' := by
  go_enter Try.func11, Try.ntmps11
  go_wp2_with fail
  refine (awake_any _).mono ?_
  rintro e w1 ⟨rfl, h1⟩
  have B1 := Lib.hid h1
  clear h1
  go_upto_region 2 with fail
  go_cut [10] (fun v wc => ∃ M : Nat, v = .int .i64 (M : Int) ∧ M ≤ s.size ∧ M ≤ t.size ∧ M ≤ 1000 ∧ w1 = wc)
  case first =>
    have hss : (0 : Int) ≤ (s.size : Int) := by omega
    go_wp2_with fail
    all_goals go_meet
    · exact ⟨1000, rfl, by omega, by omega, by omega, rfl⟩
    · exact ⟨t.size, rfl, by omega, by omega, by omega, rfl⟩
    all_goals exact ⟨s.size, rfl, by omega, by omega, by omega, rfl⟩
  case rest =>
    obtain ⟨M, rfl, hMs, hMt, hM1, rfl⟩ := hcut
    have hMsi : (M : Int) ≤ (s.size : Int) := by omega
    have hMti : (M : Int) ≤ (t.size : Int) := by omega
    have hM0 : (0 : Int) ≤ (M : Int) := by omega
    obtain ⟨X, eX⟩ : ∃ X : ByteArray, X = ⟨(be 8 a).toArray⟩ := ⟨_, rfl⟩
    obtain ⟨Y, eY⟩ : ∃ Y : ByteArray, Y = ⟨(be 8 b).toArray⟩ := ⟨_, rfl⟩
    obtain ⟨S, eS⟩ : ∃ S, S = s.extract 0 M := ⟨_, rfl⟩
    obtain ⟨T, eT⟩ : ∃ T, T = t.extract 0 M := ⟨_, rfl⟩
    obtain ⟨U, eU⟩ : ∃ U : ByteArray, U = ⟨(be 4 S.size ++ S.data.toList).toArray⟩ := ⟨_, rfl⟩
    obtain ⟨V, eV⟩ : ∃ V : ByteArray, V = ⟨(be 4 T.size ++ T.data.toList).toArray⟩ := ⟨_, rfl⟩
    have hX : X.data.toList = be 8 a := by rw [eX]
    have hY : Y.data.toList = be 8 b := by rw [eY]
    have hU : U.data.toList = be 4 S.size ++ S.data.toList := by rw [eU]
    have hV : V.data.toList = be 4 T.size ++ T.data.toList := by rw [eV]
    have hSs : S.size = M := by rw [eS]; exact tk_size s M hMs
    have hTs : T.size = M := by rw [eT]; exact tk_size t M hMt
    have hX8 : X.size = 8 := by rw [← size_list, hX, be_length]
    have q1 : Op.bytesLess X.toList Y.toList = decide (a < b) := by
      rw [ByteArray.toList_eq, ByteArray.toList_eq, hX, hY]; exact less_be 8 a b (by rw [p8]; exact ha) (by rw [p8]; exact hb)
    have q2 : (X.toList == Y.toList) = decide (a = b) := by
      rw [ByteArray.toList_eq, ByteArray.toList_eq, hX, hY, Bool.eq_iff_iff, beq_iff_eq, decide_eq_true_iff]
      exact ⟨fun h => be_inj (by rw [p8]; exact ha) (by rw [p8]; exact hb) h, fun h => by rw [h]⟩
    have q3 : Op.bytesLess U.toList V.toList = Op.bytesLess S.toList T.toList := by
      rw [ByteArray.toList_eq, ByteArray.toList_eq, ByteArray.toList_eq, ByteArray.toList_eq, hU, hV, hSs, hTs, less_pre]
    have q4 : (U.toList == V.toList) = (S.toList == T.toList) := by
      rw [ByteArray.toList_eq, ByteArray.toList_eq, ByteArray.toList_eq, ByteArray.toList_eq, hU, hV, hSs, hTs, Bool.eq_iff_iff, beq_iff_eq, beq_iff_eq]
      exact ⟨fun h => List.append_cancel_left h, fun h => by rw [h]⟩
    have HX := Lib.hid hX
    have HY := Lib.hid hY
    have HU := Lib.hid hU
    have HV := Lib.hid hV
    have ES := Lib.hid eS
    have ET := Lib.hid eT
    have HX8 := Lib.hid hX8
    have Q1 := Lib.hid q1
    have Q2 := Lib.hid q2
    have Q3 := Lib.hid q3
    have Q4 := Lib.hid q4
    have hsl : (⟨true, 0, S⟩ : It).long ≤ 140737488355328 := by show 4 + S.size ≤ _; omega
    have htl : (⟨true, 0, T⟩ : It).long ≤ 140737488355328 := by show 4 + T.size ≤ _; omega
    have HSL := Lib.hid hsl
    have HTL := Lib.hid htl
    clear hX hY hU hV eX eY eS eT eU eV hSs hTs hX8 q1 q2 q3 q4 hsl htl
    go_wp2_with fail
    refine (laid_one ⟨false, a, .empty⟩ _ w1.heap.size _ (Blk.new _ _ _) ha (by show 8 ≤ _; omega) X HX.out).mono ?_
    rintro e w2 ⟨rfl, h2⟩
    have B2 := Lib.hid ((B1.out.alloc B1.out.size _).trans (h2.mono (by have := B1.out.size; simp; omega)))
    clear h2
    go_wp2_with fail
    refine (laid_one ⟨false, b, .empty⟩ _ w2.heap.size _ (Blk.new _ _ _) hb (by show 8 ≤ _; omega) Y HY.out).mono ?_
    rintro e w3 ⟨rfl, h3⟩
    have B3 := Lib.hid ((B2.out.alloc B2.out.size _).trans (h3.mono (by have := B2.out.size; simp; omega)))
    clear h3
    go_wp2_with fail
    rw [← ES.out]
    refine (laid_one ⟨true, 0, S⟩ _ w3.heap.size _ (Blk.new _ _ _) (by show 0 < _; omega) HSL.out U HU.out).mono ?_
    rintro e w4 ⟨rfl, h4⟩
    have B4 := Lib.hid ((B3.out.alloc B3.out.size _).trans (h4.mono (by have := B3.out.size; simp; omega)))
    clear h4
    go_wp2_with fail
    rw [← ET.out]
    refine (laid_one ⟨true, 0, T⟩ _ w4.heap.size _ (Blk.new _ _ _) (by show 0 < _; omega) HTL.out V HV.out).mono ?_
    rintro e w5 ⟨rfl, h5⟩
    have B5 := Lib.hid ((B4.out.alloc B4.out.size _).trans (h5.mono (by have := B4.out.size; simp; omega)))
    clear h5
    have hX8 := HX8.out
    have hXb : ((X.size : Int) == 8) = true := by rw [hX8]; rfl
    clear hX8
    obtain ⟨P1, e1⟩ : ∃ P, P = decide (a < b) := ⟨_, rfl⟩
    obtain ⟨P2, e2⟩ : ∃ P, P = decide (a = b) := ⟨_, rfl⟩
    obtain ⟨P3, e3⟩ : ∃ P, P = Op.bytesLess S.toList T.toList := ⟨_, rfl⟩
    obtain ⟨P4, e4⟩ : ∃ P, P = (S.toList == T.toList) := ⟨_, rfl⟩
    have q1 : Op.bytesLess X.toList Y.toList = P1 := by rw [e1]; exact Q1.out
    have q2 : (X.toList == Y.toList) = P2 := by rw [e2]; exact Q2.out
    have q3 : Op.bytesLess U.toList V.toList = P3 := by rw [e3]; exact Q3.out
    have q4 : (U.toList == V.toList) = P4 := by rw [e4]; exact Q4.out
    have r1 : decide ((a : Int) < (b : Int)) = P1 := by rw [e1]; simp
    have r1' : decide (a < b) = P1 := e1.symm
    have r2 : ((a : Int) == (b : Int)) = P2 := by rw [e2, Bool.eq_iff_iff, beq_iff_eq, decide_eq_true_iff]; omega
    have r2' : (a == b) = P2 := by rw [e2, Bool.eq_iff_iff, beq_iff_eq, decide_eq_true_iff]
    have r3 : Op.bytesLess S.toList T.toList = P3 := e3.symm
    have r4 : (S.toList == T.toList) = P4 := e4.symm
    have es := ES.out.symm
    have et := ET.out.symm
    clear e1 e2 e3 e4
    go_wp2_with fail
    go_quiet (fail)
    clear q1 q2 q3 q4 r1 r1' r2 r2' r3 r4 es et hXb
    go_wp2_with fail
    go_ret
    exact ⟨rfl, below_drewN B5.out _⟩
end Go.Proofs.Ytecamidkcdaopaa.Sp
