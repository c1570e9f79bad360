/- Package path: what stands ahead of a slash and behind it; strings.Cut at it; what elements make of a text. -/
import Derived.Test.YtakfplkdjapooaaDoorPthEls
import Derived.Test.YtakfplkdjapooaaDoorPthShelf
import Derived.Test.YtakfplkdjapooaaDoorAmtParse
namespace Go.Proofs.YtakfplkdjapooaaDoor.Sp
open Go Go.RowKit

def cutA (l : List UInt8) : List UInt8 := l.takeWhile (· != 47)
def cutR (l : List UInt8) : List UInt8 := (l.dropWhile (· != 47)).drop 1
def cutM (l : List UInt8) : Bool := l.contains 47
theorem cut_one (l : List UInt8) : (cutM l = true → l = cutA l ++ 47 :: cutR l ∧ Lib.indexByte l 47 = ((cutA l).length : Int)) ∧ (cutM l = false → cutA l = l ∧ cutR l = [] ∧ Lib.indexByte l 47 = -1) := by
  induction l with
  | nil => exact ⟨fun h => by simp [cutM] at h, fun _ => ⟨rfl, rfl, rfl⟩⟩
  | cons b l ih =>
    by_cases hb : b = 47
    · subst hb
      refine ⟨fun _ => ⟨by simp [cutA, cutR], by simp [cutA, Lib.indexByte]⟩, fun h => by simp [cutM] at h⟩
    · have h1 : (b != 47) = true := by simpa using hb
      have h2 : (b == 47) = false := by simpa using hb
      have hA : cutA (b :: l) = b :: cutA l := by simp [cutA, hb]
      have hR : cutR (b :: l) = cutR l := by simp [cutR, hb]
      have hM : cutM (b :: l) = cutM l := by
        unfold cutM
        rw [List.contains_cons, show ((47 : UInt8) == b) = false from by simpa using fun h => hb h.symm, Bool.false_or]
      have hI : Lib.indexByte (b :: l) 47 = if Lib.indexByte l 47 == -1 then -1 else Lib.indexByte l 47 + 1 := by
        rw [Lib.indexByte, h2]; rfl
      rw [hA, hR, hM, hI]
      refine ⟨fun h => ?_, fun h => ?_⟩
      · obtain ⟨e1, e2⟩ := ih.1 h
        refine ⟨by rw [List.cons_append, ← e1], ?_⟩
        rw [e2, if_neg (by rw [beq_iff_eq]; omega)]
        simp
      · obtain ⟨e1, e2, e3⟩ := ih.2 h
        exact ⟨by rw [e1], e2, by rw [e3]; rfl⟩
theorem cutA_no (l : List UInt8) : 47 ∉ cutA l := by
  unfold cutA
  induction l with
  | nil => simp
  | cons b l ih =>
    by_cases hb : b = 47
    · subst hb; simp
    · rw [List.takeWhile_cons, if_pos (by simpa using hb)]
      intro h
      rcases List.mem_cons.1 h with h | h
      · exact hb h.symm
      · exact ih h
theorem cut_at (t r : List UInt8) (h : 47 ∉ t) : cutA (t ++ 47 :: r) = t ∧ cutR (t ++ 47 :: r) = r ∧ cutM (t ++ 47 :: r) = true := by
  have hp : ∀ b ∈ t, (b != 47) = true := fun b hb => by simp only [bne_iff_ne, ne_eq]; intro e; exact h (e ▸ hb)
  refine ⟨?_, ?_, by simp [cutM]⟩
  · unfold cutA
    rw [List.takeWhile_append_of_pos hp]
    simp
  · unfold cutR
    rw [List.dropWhile_append_of_pos hp]
    simp
theorem cut_end (t : List UInt8) (h : 47 ∉ t) : cutA t = t ∧ cutR t = [] ∧ cutM t = false := by
  have hM : cutM t = false := by
    unfold cutM
    rw [Bool.eq_false_iff]; intro e
    rw [List.contains_iff_mem] at e
    exact h e
  obtain ⟨h1, h2, _⟩ := (cut_one t).2 hM
  exact ⟨h1, h2, hM⟩

set_option maxHeartbeats 1000000 in
theorem lcut_any (s A R : ByteArray) (M : Bool) (hA : A.data.toList = cutA s.data.toList) (hR : R.data.toList = cutR s.data.toList) (hM : cutM s.data.toList = M) (hs : s.size ≤ 9223372036854775807) (w : World) :
    Calls Tryd.prog 35 #[.string s, .string ⟨#[47]⟩] w fun e w' => e = .returned (.tuple #[.string A, .string R, .bool M]) ∧ ∃ m, w' = w.drewN m := by
  cases M with
  | true =>
    obtain ⟨e1, e2⟩ := (cut_one s.data.toList).1 hM
    obtain ⟨n, hn⟩ : ∃ n, (cutA s.data.toList).length = n := ⟨_, rfl⟩
    have hsz : n + 1 ≤ s.size := by
      have := congrArg List.length e1
      rw [List.length_append, List.length_cons, size_list, hn] at this
      omega
    have HI := Lib.hid (show ∀ W, Calls Tryd.prog 40 #[.string s, .string ⟨#[47]⟩] W fun e w' => e = .returned (.int .i64 (n : Int)) ∧ w' = W from fun W => by
      have h := index_one s 47 W
      rw [e2, hn] at h
      exact h)
    have hA2 : s.extract 0 n = A := by
      apply list_inj
      rw [extract_list, hA, List.drop_zero]
      conv => lhs; rw [e1]
      exact List.take_left' hn
    have hR2 : s.extract (n + 1) s.size = R := by
      apply list_inj
      rw [extract_list, hR, ← size_list, List.take_length]
      conv => lhs; rw [e1]
      rw [show cutA s.data.toList ++ 47 :: cutR s.data.toList = (cutA s.data.toList ++ [47]) ++ cutR s.data.toList from by simp]
      exact List.drop_left' (by rw [List.length_append, hn]; rfl)
    have hn0 : (0 : Int) ≤ (n : Int) := by omega
    have hw : IntKind.i64.wrap ((n : Int) + 1) = ((n + 1 : Nat) : Int) := by rw [IntKind.wrap_i64]; omega
    have h1 : ((n + 1 : Nat) : Int) ≤ (s.size : Int) := by omega
    have h2 : (n : Int) ≤ (s.size : Int) := by omega
    clear e1 e2 hn hA hR hM
    go_enter Tryd.func35, Tryd.ntmps35
    go_wp2_with fail
    refine (HI.out _).mono ?_
    rintro e w1 ⟨rfl, rfl⟩
    go_wp2_with fail
    go_quiet (fail)
    go_wp2_with fail
    go_ret3
    exact ⟨rfl, _, rfl⟩
  | false =>
    obtain ⟨e1, e2, e3⟩ := (cut_one s.data.toList).2 hM
    have HI := Lib.hid (show ∀ W, Calls Tryd.prog 40 #[.string s, .string ⟨#[47]⟩] W fun e w' => e = .returned (.int .i64 (-1)) ∧ w' = W from fun W => by
      have h := index_one s 47 W
      rw [e3] at h
      exact h)
    obtain rfl : A = s := list_inj (by rw [hA, e1])
    obtain rfl : R = ⟨#[]⟩ := list_inj (by rw [hR, e2])
    clear e1 e2 e3 hA hR hM
    go_enter Tryd.func35, Tryd.ntmps35
    go_wp2_with fail
    refine (HI.out _).mono ?_
    rintro e w1 ⟨rfl, rfl⟩
    go_wp2_with fail
    go_ret3
    exact ⟨rfl, 0, rfl⟩
theorem cut_any (s A R : ByteArray) (M : Bool) (hA : A.data.toList = cutA s.data.toList) (hR : R.data.toList = cutR s.data.toList) (hM : cutM s.data.toList = M) (hs : s.size ≤ 9223372036854775807) (w : World) :
    Calls Tryd.prog 27 #[.string s, .string ⟨#[47]⟩] w fun e w' => e = .returned (.tuple #[.string A, .string R, .bool M]) ∧ ∃ m, w' = w.drewN m := by
  have HC := Lib.hid (lcut_any s A R M hA hR hM hs)
  clear hA hR hM hs
  go_enter Tryd.func27, Tryd.ntmps27
  go_wp2_with fail
  refine (HC.out _).mono ?_
  rintro e w1 ⟨rfl, m, rfl⟩
  go_wp2_with fail
  go_ret3
  exact ⟨rfl, m, rfl⟩
end Go.Proofs.YtakfplkdjapooaaDoor.Sp
