/- Package sha: the sum of a text. -/
import Derived.Test.YtncimfiiknbcfaaDoorShaAbs
namespace Go.Proofs.YtncimfiiknbcfaaDoor.Sp
open Go Go.RowKit

theorem absorb_append (c : List UInt8) (m : Nat) : ∀ (k : Nat) (s : St) (a : List UInt8), a.length = 64 * k → absorb (k + m) s (a ++ c) = absorb m (absorb k s a) c := by
  intro k
  induction k with
  | zero => intro s a h; have : a = [] := List.eq_nil_of_length_eq_zero (by omega); subst this; simp [absorb]
  | succ k ih =>
    intro s a h
    rw [show k + 1 + m = (k + m) + 1 by omega]
    simp only [absorb]
    rw [List.take_append_of_le_length (by omega), List.drop_append_of_le_length (by omega)]
    exact ih _ _ (by rw [List.length_drop]; omega)
theorem pad_length (n : Nat) : (pad n).length = 9 + zeros n := by simp [pad, bytes4_length]; omega
theorem padded_length (l : List UInt8) : (padded l).length % 64 = 0 := by
  unfold padded; rw [List.length_append, pad_length]; unfold zeros; omega
theorem sum_eq (l : List UInt8) (e : Nat) (he : e = l.length - l.length % 64) :
    encode (absorb ((l.drop e ++ pad l.length).length / 64) (absorb (e / 64) st0 (l.take e)) (l.drop e ++ pad l.length)) = sum l := by
  have h := absorb_append (l.drop e ++ pad l.length) ((l.drop e ++ pad l.length).length / 64) (e / 64) st0 (l.take e) (by rw [List.length_take]; omega)
  rw [← h, ← List.append_assoc, List.take_append_drop]
  unfold sum padded
  have hp := pad_length l.length
  have hz := zeros_le l.length
  have : e / 64 + (l.drop e ++ pad l.length).length / 64 = (l ++ pad l.length).length / 64 := by
    rw [List.length_append, List.length_append, List.length_drop]; omega
  rw [this]

theorem sum_fin (b : ByteArray) (e : Nat) (he : e = b.size - b.size % 64) (P : ByteArray) (hP : P = ⟨(pad b.size).toArray⟩) (R : St) (hR : R = absorb ((b.extract 0 e).size / 64) st0 (b.extract 0 e).data.toList) :
    encode (absorb ((b.size - e + P.size) / 64) R (List.take (b.size - e) (List.drop e b.data.toList) ++ P.data.toList)) = sum b.data.toList := by
  have hl : b.data.toList.length = b.size := by simp
  have hPl : P.data.toList = pad b.size := by rw [hP]
  have hPs : P.size = (pad b.size).length := by rw [← hPl]; simp
  have h1 : (b.extract 0 e).data.toList = b.data.toList.take e := by rw [Lib.extract_data]; simp
  have h2 : (b.extract 0 e).size = e := by rw [← size_list, h1, List.length_take, hl]; omega
  have h3 : List.take (b.size - e) (List.drop e b.data.toList) = List.drop e b.data.toList := List.take_of_length_le (by rw [List.length_drop, hl]; exact Nat.le_refl _)
  have h4 : b.size - e + P.size = (b.data.toList.drop e ++ pad b.size).length := by rw [List.length_append, List.length_drop, hl, hPs]
  rw [hR, h1, h2, h3, hPl, h4, ← hl]
  exact sum_eq b.data.toList e (by rw [hl]; exact he)

section
variable {w w0 w1 : World}
theorem Lo.drew (w : World) : Hid (Below w.heap.size w w.drew) := (Below.refl _ w).drew
theorem Lo.first (w : World) (o : Obj) : Hid (Below w.heap.size w (w.alloc o).drew) := ((Below.refl _ w).alloc (Nat.le_refl _) o).drew
theorem Lo.call (h : Hid (Below w.heap.size w w0)) (h1 : Below w0.heap.size w0 w1) : Hid (Below w.heap.size w w1) := Below.trans h (h1.mono (Below.size h))
theorem Lo.alloc (h : Hid (Below w.heap.size w w0)) (o : Obj) : Hid (Below w.heap.size w (w0.alloc o)) := Below.alloc h (Below.size h) o
theorem Lo.setc (h : Hid (Below w.heap.size w w0)) {p : Addr} (hp : w.heap.size ≤ p.block) (u : Value) : Hid (Below w.heap.size w (w0.setCell p u)) := Below.setCell h hp u
theorem Lo.big (h : Hid (Below w.heap.size w w0)) : w.heap.size ≤ w0.heap.size := Below.size h
theorem Lo.tab (hT : Hid (Tab w)) (h : Hid (Below w.heap.size w w0)) : Tab w0 := Tab.below hT h (Tab.lt hT)
end
@[reducible] def EightA (X : Nat) (R : St) (wc w' : World) : Prop := w'.cell? ⟨X, 0, none⟩ = some (.int .u32 (U R.a)) ∧ w'.cell? ⟨X, 1, none⟩ = some (.int .u32 (U R.b)) ∧ w'.cell? ⟨X, 2, none⟩ = some (.int .u32 (U R.c)) ∧ w'.cell? ⟨X, 3, none⟩ = some (.int .u32 (U R.d)) ∧ w'.cell? ⟨X, 4, none⟩ = some (.int .u32 (U R.e)) ∧ w'.cell? ⟨X, 5, none⟩ = some (.int .u32 (U R.f)) ∧ w'.cell? ⟨X, 6, none⟩ = some (.int .u32 (U R.g)) ∧ w'.cell? ⟨X, 7, none⟩ = some (.int .u32 (U R.h)) ∧ Hid (Below wc.heap.size wc w')
section
variable {X : Nat} {R : St} {wc w0 w1 : World}
theorem EightA.mk (hat : At8 wc X R) (h : Below wc.heap.size wc w1) : EightA X R wc w1 :=
  have hX := block_lt_of_cell hat.1
  have e := fun i => h.cell (p := ⟨X, i, none⟩) hX
  ⟨(e 0).trans hat.1, (e 1).trans hat.2.1, (e 2).trans hat.2.2.1, (e 3).trans hat.2.2.2.1, (e 4).trans hat.2.2.2.2.1, (e 5).trans hat.2.2.2.2.2.1, (e 6).trans hat.2.2.2.2.2.2.1, (e 7).trans hat.2.2.2.2.2.2.2, h⟩
theorem EightA.drew (hat : Hid (At8 wc X R)) : EightA X R wc wc.drew := EightA.mk hat (Below.refl _ wc).drew
theorem EightA.call (hat : Hid (At8 wc X R)) (h : EightA X R wc w0) (h1 : Below w0.heap.size w0 w1) : EightA X R wc w1 :=
  have h0 : Below wc.heap.size wc w0 := h.2.2.2.2.2.2.2.2
  EightA.mk hat (h0.trans (h1.mono h0.size))
theorem EightA.last (h : EightA X R wc w0) : Hid (Below wc.heap.size wc w0) := h.2.2.2.2.2.2.2.2
theorem EightA.tab (hT : Hid (Tab wc)) (h : EightA X R wc w0) : Tab w0 :=
  have h0 : Below wc.heap.size wc w0 := h.2.2.2.2.2.2.2.2
  Tab.below hT h0 (Tab.lt hT)
end

theorem absorb_lit (s : St) (b : ByteArray) (hb : b.size ≤ 9223372036854775807) (w : World) (hT : Tab w) :
    Calls Tryd.prog 49 #[.agg (arr s.ws), .string b] w fun e w' => e = .returned (.agg #[.int .u32 (U (absorb (b.size / 64) s b.data.toList).a), .int .u32 (U (absorb (b.size / 64) s b.data.toList).b), .int .u32 (U (absorb (b.size / 64) s b.data.toList).c), .int .u32 (U (absorb (b.size / 64) s b.data.toList).d), .int .u32 (U (absorb (b.size / 64) s b.data.toList).e), .int .u32 (U (absorb (b.size / 64) s b.data.toList).f), .int .u32 (U (absorb (b.size / 64) s b.data.toList).g), .int .u32 (U (absorb (b.size / 64) s b.data.toList).h)]) ∧ Below w.heap.size w w' :=
  absorb_any s b hb w hT

set_option maxHeartbeats 2000000 in
set_option maxRecDepth 100000 in
theorem sum_any (b : ByteArray) (hb : b.size ≤ 9223372036854775000) (w : World) (hT : Tab w) :
    Calls Tryd.prog 35 #[.string b] w fun e w' => e = .returned (.string ⟨(sum b.data.toList).toArray⟩) ∧ Below w.heap.size w w' := by
  have HT := Lib.hid hT
  clear hT
  obtain ⟨e, he⟩ : ∃ e, e = b.size - b.size % 64 := ⟨_, rfl⟩
  have heI : (b.size : Int) - (b.size : Int) % 64 = (e : Int) := by omega
  have hle : e ≤ b.size := by omega
  have hleI : (e : Int) ≤ (b.size : Int) := by omega
  have HE := Lib.hid he
  clear he
  go_enter Tryd.func35, Tryd.ntmps35
  go_upto_region 2 with fail
  go_cut [4] (fun v wc => ∃ X : Nat, v = .pointer (some ⟨X, 0, none⟩) ∧ At8 wc X (absorb ((b.extract 0 e).size / 64) st0 (b.extract 0 e).data.toList) ∧ Hid (Below w.heap.size w wc))
  case first =>
    go_region_held3 (fun w' => Hid (Below w.heap.size w w')) ((first | (with_reducible exact Lo.drew _) | (with_reducible exact Lo.first _ _) | (with_reducible assumption) | (with_reducible exact Lo.alloc (by assumption) _) | ((repeat (with_reducible refine Lo.setc ?_ (by first | exact Nat.le_refl _ | exact Lo.big (by assumption)) _)); (with_reducible assumption)))) (first
      | (go_at_call 50; refine (initial_any _).mono ?_; rintro e w1 ⟨rfl, hb1⟩; have HS1 := Lo.call (by assumption) hb1; obtain ⟨hc, hf⟩ := bcell hb1; (try (have hz1 : w.heap.size < w1.heap.size := by (have hq := hb1.size; simp at hq; omega))); clear hb1)
      | (go_at_call 49; refine (absorb_lit st0 (b.extract 0 e) (by simp; omega) _ (Lo.tab HT (by assumption))).mono ?_; rintro e w1 ⟨rfl, hb1⟩; have HS1 := Lo.call (by assumption) hb1; obtain ⟨hc, hf⟩ := bcell hb1; (try (have hz1 : w.heap.size < w1.heap.size := by (have hq := hb1.size; simp at hq; omega))); clear hb1))
    all_goals
      go_wp2_with fail
      go_meet
      refine ⟨_, rfl, ?_, ?_⟩
      · unfold At8
        go_simp
      · first | (with_reducible assumption)
  case rest =>
    obtain ⟨X, rfl, hat0, hbw⟩ := hcut
    obtain ⟨R, eR⟩ : ∃ R, R = absorb ((b.extract 0 e).size / 64) st0 (b.extract 0 e).data.toList := ⟨_, rfl⟩
    rw [← eR] at hat0
    have ER := Lib.hid eR
    have hat := Lib.hid hat0
    have HTc := Lib.hid (HT.out.below hbw.out HT.out.lt)
    clear hat0 eR
    obtain ⟨P, eP⟩ : ∃ P : ByteArray, P = ⟨(pad b.size).toArray⟩ := ⟨_, rfl⟩
    have hPs : P.size ≤ 72 := by rw [eP]; have h1 := pad_length b.size; have h2 := zeros_le b.size; show (pad b.size).toArray.size ≤ 72; simp; omega
    have hpad := fun W => pad_any b.size (by omega) W
    rw [← eP] at hpad
    have HP := Lib.hid hpad
    have EP := Lib.hid eP
    clear hpad eP
    have hadd : ¬ 9223372036854775807 < b.size - e + P.size := by omega
    go_wp2_with fail
    go_region_held3 (fun w' => w'.cell? ⟨X, 0, none⟩ = some (.int .u32 (U R.a)) ∧ w'.cell? ⟨X, 1, none⟩ = some (.int .u32 (U R.b)) ∧ w'.cell? ⟨X, 2, none⟩ = some (.int .u32 (U R.c)) ∧ w'.cell? ⟨X, 3, none⟩ = some (.int .u32 (U R.d)) ∧ w'.cell? ⟨X, 4, none⟩ = some (.int .u32 (U R.e)) ∧ w'.cell? ⟨X, 5, none⟩ = some (.int .u32 (U R.f)) ∧ w'.cell? ⟨X, 6, none⟩ = some (.int .u32 (U R.g)) ∧ w'.cell? ⟨X, 7, none⟩ = some (.int .u32 (U R.h)) ∧ Hid (Below wc.heap.size wc w')) ((first | (with_reducible exact EightA.drew hat) | (with_reducible exact Hid.out (by assumption)))) (first
      | (go_at_call 52; refine (HP.out _).mono ?_; rintro e w1 ⟨rfl, hb1⟩; have HS1 := Lib.hid (EightA.call hat (by assumption) hb1); clear hb1)
      | (go_at_call 49; refine (absorb_any R (b.extract e b.size ++ P) (by simp; omega) _ (EightA.tab HTc (by assumption))).mono ?_; rintro e w1 ⟨rfl, hb1⟩; have HS1 := Lib.hid (EightA.call hat (by assumption) hb1); clear hb1)
      | (go_at_call 51; refine (encode_any _ _).mono ?_; rintro e w1 ⟨rfl, hb1⟩; have HS1 := Lib.hid (EightA.call hat (by assumption) hb1); clear hb1))
    go_wp2_with fail
    go_ret
    refine ⟨ret_string ?_, ?_⟩
    · exact sum_fin b e HE.out P EP.out R ER.out
    · refine hbw.out.trans (Below.mono (B := wc.heap.size) ?_ hbw.out.size)
      first | (with_reducible exact Hid.out (EightA.last (by assumption))) | (with_reducible exact Hid.out (EightA.last (Hid.out (by assumption))))

end Go.Proofs.YtncimfiiknbcfaaDoor.Sp
