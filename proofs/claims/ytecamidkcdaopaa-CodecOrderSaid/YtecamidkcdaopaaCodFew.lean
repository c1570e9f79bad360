/- The statements of package codec: few, pick. -/
import Derived.Test.YtecamidkcdaopaaCodAwake
import Derived.Deep.RegionHeld3
import Derived.Deep.AppendLies
import Derived.WalkLawsBesides
namespace Go.Proofs.Ytecamidkcdaopaa.Sp
open Go Go.RowKit

def cutIt (x : It) : It := ⟨x.t, x.n, x.s.extract 0 (min x.s.size 1000)⟩
def fewL (l : List It) : List It := (l.take 50).map cutIt
def itVs (x : It) : List Value := [.bool x.t, .int .u64 (x.n : Int), .string x.s]
def itsVs (l : List It) : List Value := l.flatMap itVs
theorem itsVs_length (l : List It) : (itsVs l).length = l.length * 3 := by
  induction l with
  | nil => rfl
  | cons x l ih => simp [itsVs, itVs, List.flatMap_cons] at ih ⊢; omega
theorem itsVs_get (l : List It) : ∀ (j k : Nat), j < l.length → k < 3 → (itsVs l)[j * 3 + k]? = some (itCell (l.getD j It.none_) k) := by
  induction l with
  | nil => intro j k h; simp at h
  | cons x l ih =>
    intro j k hj hk
    rcases j with _ | j
    · match k, hk with
      | 0, _ => rfl
      | 1, _ => rfl
      | 2, _ => rfl
    · have h := ih j k (by simpa using hj) hk
      rw [show (j + 1) * 3 + k = (j * 3 + k) + 3 by omega]
      simpa [itsVs, itVs, List.flatMap_cons] using h
def zIt : Value := .agg #[.bool false, .int .u64 0, .string .empty]
theorem infoItem : (Try.prog.info? 28).map (fun i => (i.zero, i.size, i.bytes)) = some (some zIt, 3, 32) := by kernel_rfl
theorem fewL_length (l : List It) : (fewL l).length = min 50 l.length := by simp [fewL]
theorem itsVs_snoc (l : List It) (x : It) : itsVs (l ++ [x]) = itsVs l ++ itVs x := by simp [itsVs]
theorem fewL_succ (l : List It) (k : Nat) (hk : k < l.length) (h5 : k < 50) : fewL (l.take (k + 1)) = fewL (l.take k) ++ [cutIt (l.getD k It.none_)] := by
  have e1 : (l.take (k + 1)).take 50 = l.take (k + 1) := List.take_of_length_le (by rw [List.length_take]; omega)
  have e2 : (l.take k).take 50 = l.take k := List.take_of_length_le (by rw [List.length_take]; omega)
  unfold fewL
  rw [e1, e2, take_getD It.none_ l k hk]; simp
/-- A slice of items of the call's own. -/
def OwnI (w : World) (base : Nat) (v : Value) (l : List It) : Prop := w.ownsRow base 28 3 v l.length (itsVs l)
/-- What owns items reads as them. -/
theorem OwnI.items {w : World} {base : Nat} {v : Value} {l : List It} (h : OwnI w base v l) : ∃ a c, v = .slice a l.length c ∧ Items w a l.length l := by
  rcases h.2 with ⟨h1, h2⟩ | ⟨g, cap, cur, h1, _⟩
  · exact ⟨none, 0, by rw [h1, h2], rfl, fun hp => by omega⟩
  · refine ⟨_, _, h1, rfl, fun hp => ⟨g, 0, rfl, fun j hj k hk => ?_⟩⟩
    have hc := World.ownsRow.cells h (g := g) (by rw [h1]; rfl) (j * 3 + k) _ (itsVs_get l j k hj hk)
    rw [show (⟨g, 0, none⟩ : Addr).add (j * 3 + k) = ⟨g, 0 + j * 3 + k, none⟩ from by unfold Addr.add; split <;> simp_all <;> omega] at hc
    exact hc
theorem itVs_one (x : It) : ∀ u ∈ itVs x, u.oneCell' = true := by
  intro u hu; simp [itVs] at hu; rcases hu with rfl | rfl | rfl <;> rfl

def FewTo (l : List It) (w : World) (e : Ending) (w' : World) : Prop :=
  ∃ (a : Option Addr) (c : Nat), e = .returned (.slice a l.length c) ∧ Items w' a l.length l ∧ Below w.heap.size w w'

set_option maxHeartbeats 2000000 in
theorem few_any (a : Option Addr) (n c : Nat) (l : List It) (w : World) (hI : Items w a n l) (hn : n ≤ 9223372036854775807) (hsz : ∀ x ∈ l, x.s.size ≤ 9223372036854775807) :
    Calls Try.prog 28 #[.slice a n c] w (FewTo (fewL l) w) := by
  have HI := Lib.hid hI
  have HN := Lib.hid hI.1
  have HSZ := Lib.hid hsz
  clear hI hsz
  go_enter Try.func28, Try.ntmps28
  go_wp2_with fail
  go_loopw [3, 4] (fun v i wr => ∃ k : Nat, k ≤ n ∧ k ≤ 50 ∧ i = .int .i64 (k : Int) ∧ OwnI wr w.heap.size v (fewL (l.take k)) ∧ Below w.heap.size w wr) (fun _ i _ => n - (intOf i).toNat)
  case atStart => exact ⟨0, Nat.zero_le _, Nat.zero_le _, rfl, World.ownsRow_nil _ _ _ _, Below.refl _ _⟩
  case round =>
    obtain ⟨k, hk, hk50, rfl, hown, hbel⟩ := hrel
    have HO := Lib.hid hown
    have HB := Lib.hid hbel
    have hbz := hbel.size
    clear hown hbel
    by_cases hlt : k < n ∧ k < 50
    · obtain ⟨hlt, hlt5⟩ := hlt
      obtain ⟨b, off, rfl, hc⟩ := HI.out.2 (by omega)
      obtain ⟨X, eX⟩ : ∃ X, X = l.getD k It.none_ := ⟨_, rfl⟩
      have hbw := HI.out.lt b off rfl (by omega)
      have h0 := (HB.out.cell (p := ⟨b, off + k * 3 + 0, none⟩) hbw).trans (hc k hlt 0 (by omega))
      have h1 := (HB.out.cell (p := ⟨b, off + k * 3 + 1, none⟩) hbw).trans (hc k hlt 1 (by omega))
      have h2 := (HB.out.cell (p := ⟨b, off + k * 3 + 2, none⟩) hbw).trans (hc k hlt 2 (by omega))
      rw [← eX] at h0 h1 h2
      simp only [itCell, Nat.add_zero] at h0 h1 h2
      have hki : (k : Int) < (n : Int) := by omega
      have hk0 : (0 : Int) ≤ (k : Int) := by omega
      have hk5 : (k : Int) < 50 := by omega
      obtain ⟨M, hM⟩ : ∃ M : Nat, (if (1000 : Int) < (X.s.size : Int) then (1000 : Int) else (X.s.size : Int)) = (M : Int) := ⟨min X.s.size 1000, by split <;> omega⟩
      have hMx := Lib.hid (show M = min X.s.size 1000 from by revert hM; split <;> omega)
      have hM1 : (M : Int) ≤ (X.s.size : Int) := by have := hMx.out; omega
      have hM2 : M ≤ X.s.size := by omega
      have hM0 : (0 : Int) ≤ (M : Int) := by omega
      have hlk : (fewL (l.take k)).length = k := by rw [fewL_length, List.length_take, HN.out]; omega
      have hA : k + 1 ≤ maxLen := by unfold maxLen; omega
      have hB : (k + 1) * 32 ≤ 140737488355328 := by omega
      obtain ⟨Xs, eXs⟩ : ∃ Xs : List Value, Xs = itsVs (fewL (l.take k)) := ⟨_, rfl⟩
      have HOk := Lib.hid (show wr.ownsRow w.heap.size 28 3 u3 k Xs from by have := HO.out; unfold OwnI at this; rw [hlk] at this; rw [eXs]; exact this)
      obtain ⟨i0, hi0, hz0, hz1, hz2⟩ := info_parts infoItem
      have EXs := Lib.hid eXs
      have EX := Lib.hid eX
      have HLK := Lib.hid hlk
      clear hc eX eXs hlk
      go_wp2_with (at_builtin; refine wpList_append_own _ rfl (.tmp 28) (.tmp 30) 22 rfl w.heap.size 28 i0 zIt 3 32 Try.underlying22 hi0 hz0 hz1 hz2 rfl (by decide) u3 k Xs rfl ((HOk.out.alloc _).alloc _) ⟨wr.heap.size + 1, 0, none⟩ 1 1 [.bool X.t, .int .u64 (X.n : Int), .string (X.s.extract 0 M)] rfl rfl ?c1 ?c2 ?c3 ?c4 ?c5 ?_)
      case c1 =>
        intro j u hj
        have e : (wr.alloc (.cells #[.bool X.t, .int .u64 (X.n : Int), .string (X.s.extract 0 M)] 28)).heap.size = wr.heap.size + 1 := by simp
        rw [← e]
        exact new_cell _ _ _ hj
      case c2 => exact itVs_one ⟨X.t, X.n, X.s.extract 0 M⟩
      case c3 => exact hA
      case c4 => exact hB
      case c5 => simp; omega
      intro v' w1 hown1 hgrow _
      have HO1 := Lib.hid (show OwnI w1 w.heap.size v' (fewL (l.take (k + 1))) from by
        unfold OwnI
        rw [fewL_succ l k (by rw [HN.out]; exact hlt) hlt5, itsVs_snoc, List.length_append, HLK.out, ← EXs.out, ← EX.out]
        have e : itVs (cutIt X) = [.bool X.t, .int .u64 (X.n : Int), .string (X.s.extract 0 M)] := by rw [hMx.out]; rfl
        rw [e]
        exact hown1)
      have HB1 := Lib.hid (show Below w.heap.size w w1 from by
        refine ((HB.out.alloc hbz _).alloc (by simp; omega) _).grown hgrow (by simp; omega) ?_
        intro k' hk'
        exact (HOk.out.lt k' hk').1)
      clear hown1 hgrow hM h0 h1 h2 hA hB
      go_wp2_with fail
      go_roundw
      case rel => exact ⟨k + 1, by omega, by omega, by go_num, HO1.out, HB1.out⟩
      case measure => simp [intOf]; omega
    · have hend : fewL (l.take k) = fewL l := by
        by_cases h : k = n
        · rw [h, ← HN.out, List.take_length]
        · obtain rfl : k = 50 := by omega
          unfold fewL; rw [List.take_take]; simp
      have hall := HO.out
      rw [hend] at hall
      obtain ⟨a3, c3, e3, hI3⟩ := hall.items
      have HI3 := Lib.hid hI3
      have E3 := Lib.hid e3
      clear hend hall hI3 e3
      by_cases hkn : k < n
      · have h50 : ¬ (k : Int) < 50 := by omega
        have hki : (k : Int) < (n : Int) := by omega
        clear hlt hkn
        go_wp2_with fail
        go_ret
        exact ⟨a3, c3, by rw [← E3.out]; rfl, HI3.out, HB.out⟩
      · have hki : ¬ (k : Int) < (n : Int) := by omega
        clear hlt hkn
        go_wp2_with fail
        go_ret
        exact ⟨a3, c3, by rw [← E3.out]; rfl, HI3.out, HB.out⟩

theorem pick_any (c n : Int) (hc0 : -9223372036854775808 ≤ c) (hc1 : c ≤ 9223372036854775807) (hn : 0 < n) (hn1 : n ≤ 9223372036854775807) (w : World) :
    Calls Try.prog 33 #[.int .i64 c, .int .i64 n] w fun e w' => (∃ r : Int, 0 ≤ r ∧ r < n ∧ e = .returned (.int .i64 r)) ∧ w = w' := by
  by_cases h : c < 0
  · have hp0 : (0 : Int) ≤ -(c + 1) := by omega
    have hp1 : -(c + 1) ≤ 9223372036854775807 := by omega
    go_enter Try.func33, Try.ntmps33
    go_wp2_with fail
    go_ret
    have e1 : -((c + 1).tmod n) = -(c + 1) % n := by rw [← Int.neg_tmod, Int.tmod_eq_emod_of_nonneg hp0]
    exact ⟨⟨_, by rw [e1]; exact Int.emod_nonneg _ (by omega), by rw [e1]; exact Int.emod_lt_of_pos _ hn, rfl⟩, rfl⟩
  · go_enter Try.func33, Try.ntmps33
    go_wp2_with fail
    go_ret
    exact ⟨⟨_, Int.emod_nonneg _ (by omega), Int.emod_lt_of_pos _ hn, rfl⟩, rfl⟩
end Go.Proofs.Ytecamidkcdaopaa.Sp
