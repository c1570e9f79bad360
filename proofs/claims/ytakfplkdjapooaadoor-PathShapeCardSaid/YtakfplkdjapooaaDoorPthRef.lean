/- The document's own answers for package path: the words of a kind, the digits at a place, Print. -/
import Derived.Test.YtakfplkdjapooaaDoorPthPure
import Derived.Test.YtakfplkdjapooaaDoorAmtQPrint
import Derived.Test.YtakfplkdjapooaaDoorAmtQPar
import Derived.OwnWalk
namespace Go.Proofs.YtakfplkdjapooaaDoor.Sp
open Go Go.RowKit

theorem forms_any (k : Nat) (h1 : 1 ≤ k) (h8 : k ≤ 8) (w : World) :
    Calls Tryd.prog 20 #[.int .i64 (k : Int)] w fun e w' => e = .returned (.tuple #[.string ⟨(wA k).toArray⟩, .string ⟨(wB k).toArray⟩, .bool (two k)]) ∧ w = w' := by
  match k, h1, h8 with
  | 1, _, _ | 2, _, _ | 3, _, _ | 4, _, _ | 5, _, _ | 6, _, _ | 7, _, _ | 8, _, _ =>
    go_enter Tryd.func20, Tryd.ntmps20
    go_wp2_with fail
    go_ret3
    exact ⟨rfl, rfl⟩
theorem forms_no (K : Int) (h : ¬ (1 ≤ K ∧ K ≤ 8)) (w : World) :
    Calls Tryd.prog 20 #[.int .i64 K] w fun e w' => e = .returned (.tuple #[.string .empty, .string .empty, .bool false]) ∧ w = w' := by
  have n1 : ¬ K = 1 := by omega
  have n2 : ¬ K = 2 := by omega
  have n3 : ¬ K = 3 := by omega
  have n4 : ¬ K = 4 := by omega
  have n5 : ¬ K = 5 := by omega
  have n6 : ¬ K = 6 := by omega
  have n7 : ¬ K = 7 := by omega
  have n8 : ¬ K = 8 := by omega
  clear h
  go_enter Tryd.func20, Tryd.ntmps20
  go_wp2_with fail
  go_ret3
  exact ⟨rfl, rfl⟩

/-- The digits that a text begins with. -/
def digs (l : List UInt8) : List UInt8 := l.takeWhile fun b => decide (isDig b)
theorem digs_take (l : List UInt8) : ∀ j, (∀ b ∈ l.take j, isDig b) → (j = l.length ∨ ∃ h : j < l.length, ¬ isDig l[j]) → digs l = l.take j := by
  induction l with
  | nil => intro j _ _; simp [digs]
  | cons x l ih =>
    intro j h1 h2
    cases j with
    | zero =>
      rcases h2 with h2 | ⟨h, h2⟩
      · simp at h2
      · have : ¬ isDig x := h2
        simp [digs, this]
    | succ j =>
      have hx : isDig x := h1 x (by simp)
      have := ih j (fun b hb => h1 b (by rw [List.take_succ_cons]; exact List.mem_cons_of_mem _ hb)) (by
        rcases h2 with h2 | ⟨h, h2⟩
        · left; simpa using h2
        · right; exact ⟨by simpa using h, by simpa using h2⟩)
      unfold digs at this ⊢
      rw [List.takeWhile_cons, if_pos (by simpa using hx), this, List.take_succ_cons]
theorem digs_dec (a : Nat) (x : List UInt8) (hx : NoDig x) : digs (dec a ++ x) = dec a := by
  rw [digs_take (dec a ++ x) (dec a).length]
  · rw [List.take_left']; rfl
  · intro b hb; rw [List.take_left' rfl] at hb; exact dec_dig a b hb
  · cases x with
    | nil => left; simp
    | cons c x =>
      right
      refine ⟨by simp, ?_⟩
      rw [List.getElem_append_right (Nat.le_refl _)]
      simp only [Nat.sub_self, List.getElem_cons_zero]
      exact hx c rfl

theorem qparse_at (t : ByteArray) (N : Nat) (E : Int) (h : parN t.data.toList = N ∧ parE t.data.toList = E) (ht : t.size ≤ 9223372036854775807) (w : World) :
    Calls Tryd.prog 29 #[.string t] w fun e w' => e = .returned (.tuple #[.int .u64 (N : Int), .int .i64 E]) ∧ w = w' := by
  obtain ⟨rfl, rfl⟩ := h
  exact qparse_any t ht w

set_option maxHeartbeats 1000000 in
theorem qnumber_any (t : ByteArray) (p : Nat) (hp : p ≤ t.size) (ht : t.size ≤ 9223372036854775807) (D : List UInt8) (hD : digs (t.data.toList.drop p) = D) (w : World) :
    Calls Tryd.prog 22 #[.string t, .int .i64 (p : Int)] w fun e w' => e = .returned (.tuple #[.int .u64 (parN D : Int), .int .i64 ((p + D.length : Nat) : Int), .bool (parE D == 0)]) ∧ w = w' := by
  have Hlen := Lib.hid (size_list t)
  obtain ⟨N, eN⟩ : ∃ N, parN D = N := ⟨_, rfl⟩
  obtain ⟨E, eE⟩ : ∃ E, parE D = E := ⟨_, rfl⟩
  obtain ⟨R, eR⟩ : ∃ R, p + D.length = R := ⟨_, rfl⟩
  rw [eN, eE, eR]
  have HR := Lib.hid eR
  have HNE := Lib.hid (And.intro eN eE)
  have HD := Lib.hid hD
  have hpi : (p : Int) ≤ (t.size : Int) := by omega
  clear hD eN eE eR
  have fin : ∀ j, p + j ≤ t.size → (∀ b ∈ (t.data.toList.drop p).take j, isDig b) → (p + j = t.size ∨ ∃ h : p + j < t.size, ¬ isDig t[p + j]) → R = p + j ∧ (t.extract p R).data.toList = D := by
    intro j hj h1 h2
    have hl : (t.data.toList.drop p).length = t.size - p := by rw [List.length_drop, Hlen.out]
    have hF : D = (t.data.toList.drop p).take j := by
      rw [← HD.out]
      refine digs_take _ j h1 ?_
      rcases h2 with h2 | ⟨h, h2⟩
      · left; rw [hl]; omega
      · right
        refine ⟨by rw [hl]; omega, ?_⟩
        rw [List.getElem_drop]
        exact h2
    have hR : R = p + j := by rw [← HR.out, hF, List.length_take, hl]; omega
    refine ⟨hR, ?_⟩
    rw [extract_list, hR, hF, ← List.take_drop]
  have Hfin := Lib.hid fin
  clear fin
  go_enter Tryd.func22, Tryd.ntmps22
  go_wp2_with fail
  go_loop [7] (fun i => ∃ j q : Nat, p + j ≤ t.size ∧ i = .int .i64 (q : Int) ∧ Hid (q = p + j) ∧ Hid (∀ b ∈ (t.data.toList.drop p).take j, isDig b)) (fun i => t.size - (intOf i).toNat)
  case atStart => exact ⟨0, p, by omega, rfl, rfl, by intro b hb; simp at hb⟩
  case round =>
    obtain ⟨j, q, hj, rfl, HQ, HA⟩ := hrel
    by_cases hd : ∃ h : q < t.size, isDig t[q]
    · obtain ⟨hlt, hd⟩ := hd
      have hqi : (q : Int) < (t.size : Int) := by omega
      have hq0 : (0 : Int) ≤ (q : Int) := by omega
      have HA2 := Lib.hid (show ∀ b ∈ (t.data.toList.drop p).take (j + 1), isDig b from by
        have hq := HQ.out
        subst hq
        have hjl : j < (t.data.toList.drop p).length := by rw [List.length_drop, Hlen.out]; omega
        intro b hb
        rw [List.take_succ_eq_append_getElem hjl] at hb
        rcases List.mem_append.1 hb with hb | hb
        · exact HA.out b hb
        · rw [List.mem_singleton, List.getElem_drop] at hb; subst hb; exact hd)
      have HQ2 := Lib.hid (show q + 1 = p + (j + 1) by have := HQ.out; omega)
      have hj2 : p + (j + 1) ≤ t.size := by have := HQ.out; omega
      unfold isDig at hd
      have h1i : (48 : Int) ≤ (t[q].toNat : Int) := by omega
      have h2i : (t[q].toNat : Int) ≤ 57 := by omega
      clear HA hd HQ
      go_wp2_with fail
      go_round
      case rel => exact ⟨j + 1, q + 1, hj2, by go_num, HQ2, HA2⟩
      case measure => simp [intOf]; omega
    · have HF := Lib.hid (show q = R ∧ (t.extract p R).data.toList = D from by
        have hq := HQ.out
        subst hq
        obtain ⟨h1, h2⟩ := Hfin.out j hj HA.out (by
          by_cases hlt : p + j < t.size
          · right; exact ⟨hlt, fun h => hd ⟨hlt, h⟩⟩
          · left; omega)
        exact ⟨h1.symm, h2⟩)
      have hq := HF.out.1
      subst hq
      have HP := Lib.hid (qparse_at (t.extract p q) N E (by rw [HF.out.2]; exact HNE.out) (by
        rw [← size_list, HF.out.2, ← HD.out]
        have h1 : (digs (t.data.toList.drop p)).length ≤ (t.data.toList.drop p).length := (List.takeWhile_sublist _).length_le
        rw [List.length_drop, Hlen.out] at h1
        omega))
      have hqp : (p : Int) ≤ (q : Int) := by have := HQ.out; omega
      have hqt : (q : Int) ≤ (t.size : Int) := by have := HQ.out; omega
      have hq0 : (0 : Int) ≤ (q : Int) := by omega
      by_cases hlt : q < t.size
      · have hqi : (q : Int) < (t.size : Int) := by omega
        have hno : ¬ isDig t[q] := fun h => hd ⟨hlt, h⟩
        unfold isDig at hno
        by_cases h1 : t[q].toNat < 48
        · have h1i : ¬ (48 : Int) ≤ (t[q].toNat : Int) := by omega
          clear hd hno h1 hj
          go_wp2_with fail
          refine (HP.out _).mono ?_
          rintro e w' ⟨rfl, rfl⟩
          go_wp2_with fail
          go_ret3
          exact ⟨rfl, rfl⟩
        · have h1i : (48 : Int) ≤ (t[q].toNat : Int) := by omega
          have h2i : ¬ (t[q].toNat : Int) ≤ 57 := by omega
          clear hd hno h1 hj
          go_wp2_with fail
          refine (HP.out _).mono ?_
          rintro e w' ⟨rfl, rfl⟩
          go_wp2_with fail
          go_ret3
          exact ⟨rfl, rfl⟩
      · have hqi : ¬ (q : Int) < (t.size : Int) := by omega
        clear hd hj
        go_wp2_with fail
        refine (HP.out _).mono ?_
        rintro e w' ⟨rfl, rfl⟩
        go_wp2_with fail
        go_ret3
        exact ⟨rfl, rfl⟩
end Go.Proofs.YtakfplkdjapooaaDoor.Sp
