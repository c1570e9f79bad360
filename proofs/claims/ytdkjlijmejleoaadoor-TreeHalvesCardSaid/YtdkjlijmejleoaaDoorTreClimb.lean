/- The document's own climb. -/
import Derived.Test.YtdkjlijmejleoaaDoorTreAbove
namespace Go.Proofs.YtdkjlijmejleoaaDoor.Sp
open Go Go.RowKit
set_option maxRecDepth 100000

set_option maxHeartbeats 1000000 in
theorem qclimb_of (T : World → Prop) (_hTd : ∀ w, T w → T w.drew) (hTb : ∀ w w', T w → Below w.heap.size w w' → T w') (M : Nat)
    (hnode : ∀ (a b : ByteArray) (w : World), a.size + b.size ≤ M → T w → Calls Tryd.prog 41 #[.string a, .string b] w fun e w' => e = .returned (.string (nodeB a b)) ∧ Below w.heap.size w w')
    (x : ByteArray) (i : Int) (hi : -9223372036854775808 ≤ i ∧ i ≤ 9223372036854775807) (l : List ByteArray) (a : Option Addr) (n cap : Nat) (hn : n ≤ 9223372036854775807) (hM : ∀ y ∈ l, x.size + y.size ≤ M ∧ 32 + y.size ≤ M) (w : World) (hl : Strs w a n l) (hT : T w) :
    Calls Tryd.prog 21 #[.string x, .int .i64 i, .slice a n cap] w fun e w' => e = .returned (.string (climbI x i l)) ∧ Below w.heap.size w w' := by
  have hlen := hl.1
  obtain ⟨I, hI⟩ : ∃ I : Nat, i.toNat = I := ⟨_, rfl⟩
  have hmax : (max i 0 : Int) = (I : Int) := by omega
  have hI9 : I ≤ 9223372036854775807 := by omega
  have hite : (if i < 0 then (0 : Int) else i) = (I : Int) := by split <;> omega
  have hite2 : (if 0 < i then i else (0 : Int)) = (I : Int) := by split <;> omega
  have hite3 : (if i ≤ 0 then (0 : Int) else i) = (I : Int) := by split <;> omega
  have hite4 : (if 0 ≤ i then i else (0 : Int)) = (I : Int) := by split <;> omega
  have HX := Lib.hid (show climbI x i l = climbB x I l from by unfold climbI; rw [hI])
  have HL := Lib.hid hl
  have HT := Lib.hid hT
  have HTb := Lib.hid hTb
  have HM := Lib.hid hM
  have HN := Lib.hid hnode
  clear hl hT hM hnode _hTd hTb
  go_enter Tryd.func21, Tryd.ntmps21
  go_wp2_with fail
  go_loopw [0, 1, 7] (fun s t y wr => ∃ k : Nat, k ≤ n ∧ y = .int .i64 (k : Int) ∧ t = .int .i64 ((I / 2 ^ k : Nat) : Int) ∧ s = .string (climbB x I (l.take k)) ∧ T wr ∧ Below w.heap.size w wr) (fun _ _ y _ => n - (intOf y).toNat)
  case atStart => exact ⟨0, by omega, rfl, by first | (simp; done) | (simp; omega) | (simp only [Nat.pow_zero, Nat.div_one]; congr 1), rfl, HT.out, Below.refl _ _⟩
  case round =>
    obtain ⟨k, hk, rfl, rfl, rfl, ht, hbel⟩ := hrel
    have HTr := Lib.hid ht
    have HB := Lib.hid hbel
    clear ht hbel
    obtain ⟨C, hC⟩ : ∃ C, climbB x I (l.take k) = C := ⟨_, rfl⟩
    obtain ⟨J, hJ⟩ : ∃ J, I / 2 ^ k = J := ⟨_, rfl⟩
    have hJ9 : J ≤ 9223372036854775807 := by rw [← hJ]; exact Nat.le_trans (Nat.div_le_self _ _) hI9
    rw [hC, hJ]
    by_cases hlt : k < n
    · have hki : (k : Int) < (n : Int) := by omega
      have hk0 : (0 : Int) ≤ (k : Int) := by omega
      obtain ⟨b, off, rfl, c1⟩ := HL.out.at_ HB.out hlt
      obtain ⟨Y, hY⟩ : ∃ Y, l.getD k ByteArray.empty = Y := ⟨_, rfl⟩
      rw [hY] at c1
      have hCY : C.size + Y.size ≤ M := by
        have h1 := HM.out Y (by rw [← hY]; exact getD_mem_ l k (by omega))
        rcases climb_size (l.take k) x I with ⟨_, h2⟩ | h2
        · rw [← hC, h2]; exact h1.1
        · rw [← hC, h2]; exact h1.2
      have hstep := climb_take l k (by omega) x I
      rw [hC, hJ, hY] at hstep
      have hJ2 : I / 2 ^ (k + 1) = J / 2 := by rw [← hJ, Nat.pow_succ, Nat.div_div_eq_div_mul]
      have HJ2 := Lib.hid hJ2
      obtain ⟨J', hJ'⟩ : ∃ J', J / 2 = J' := ⟨_, rfl⟩
      rw [hJ'] at HJ2
      have hq : (J : Int).tdiv 2 = (J' : Int) := by rw [Int.tdiv_eq_ediv_of_nonneg (by omega)]; omega
      have hq' : (J : Int) / 2 = (J' : Int) := by omega
      have hqw : IntKind.i64.wrap (J' : Int) = (J' : Int) := by rw [IntKind.wrap_i64]; omega
      clear hJ2 hC hJ hlt
      rcases Nat.mod_two_eq_zero_or_one J with hm | hm
      · have hmi : (J : Int) % 2 = 0 := by omega
        have htm : (J : Int).tmod 2 = 0 := by rw [Int.tmod_eq_emod_of_nonneg (by omega)]; exact hmi
        rw [if_pos hm] at hstep
        obtain ⟨W, hW⟩ : ∃ W, nodeB C Y = W := ⟨_, rfl⟩
        rw [hW] at hstep
        have HS := Lib.hid hstep
        have HW := Lib.hid (HN.out C Y wr hCY HTr.out)
        rw [hW] at HW
        clear hstep hW hm hJ' hY
        go_wp2_with fail
        refine HW.out.mono ?_
        rintro e w2 ⟨rfl, h2⟩
        have B2 := Lib.hid (HB.out.trans (h2.mono HB.out.size))
        have T2 := Lib.hid (HTb.out w w2 HT.out B2.out)
        clear h2
        go_wp2_with fail
        go_roundw
        case rel => exact ⟨k + 1, by omega, by go_num, by rw [HJ2.out], by rw [HS.out], T2.out, B2.out⟩
        case measure => simp [intOf]; omega
      · have hmi : (J : Int) % 2 = 1 := by omega
        have htm : (J : Int).tmod 2 = 1 := by rw [Int.tmod_eq_emod_of_nonneg (by omega)]; exact hmi
        rw [if_neg (by omega)] at hstep
        obtain ⟨W, hW⟩ : ∃ W, nodeB Y C = W := ⟨_, rfl⟩
        rw [hW] at hstep
        have HS := Lib.hid hstep
        have HW := Lib.hid (HN.out Y C wr (by omega) HTr.out)
        rw [hW] at HW
        clear hstep hW hm hJ' hY
        go_wp2_with fail
        refine HW.out.mono ?_
        rintro e w2 ⟨rfl, h2⟩
        have B2 := Lib.hid (HB.out.trans (h2.mono HB.out.size))
        have T2 := Lib.hid (HTb.out w w2 HT.out B2.out)
        clear h2
        go_wp2_with fail
        go_roundw
        case rel => exact ⟨k + 1, by omega, by go_num, by rw [HJ2.out], by rw [HS.out], T2.out, B2.out⟩
        case measure => simp [intOf]; omega
    · have hki : ¬ (k : Int) < (n : Int) := by omega
      obtain rfl : k = n := by omega
      have hall : climbI x i l = C := by rw [HX.out, ← hC, List.take_of_length_le (by omega)]
      have Hall := Lib.hid hall
      clear hall hC hJ hlt
      go_wp2_with fail
      go_ret
      exact ⟨by rw [Hall.out]; rfl, HB.out⟩
end Go.Proofs.YtdkjlijmejleoaaDoor.Sp
