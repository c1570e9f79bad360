/- Package sha: the sum of a text. -/
import Derived.Test.YtnkkckmejjcfkaaGreatDoorGzC
import Derived.Lib.AppendStr
import Derived.Room.AppendFits
import Derived.Deep.DeepAppendRoom
namespace Go.Proofs.YtnkkckmejjcfkaaGreatDoor.Sp
open Go Go.RowKit

theorem absorb_append (c : List UInt8) (m : Nat) : ∀ (k : Nat) (s : St) (a : List UInt8), a.length = 64 * k → absorb (k + m) s (a ++ c) = absorb m (absorb k s a) c := by
  intro k
  induction k with
  | zero => intro s a h; have : a = [] := List.eq_nil_of_length_eq_zero (by omega); subst this; simp [absorb]
  | succ k ih =>
    intro s a h
    rw [show k + 1 + m = (k + m) + 1 by omega]
    simp only [absorb]
    rw [List.take_append_of_le_length (by omega), List.drop_append_of_le_length (by omega)]
    exact ih _ _ (by rw [List.length_drop]; omega)
theorem pad_length (n : Nat) : (pad n).length = 9 + zeros n := by simp [pad, bytes4_length]; omega
theorem padded_length (l : List UInt8) : (padded l).length % 64 = 0 := by
  unfold padded; rw [List.length_append, pad_length]; unfold zeros; omega
theorem sum_eq (l : List UInt8) (e : Nat) (he : e = l.length - l.length % 64) :
    encode (absorb ((l.drop e ++ pad l.length).length / 64) (absorb (e / 64) st0 (l.take e)) (l.drop e ++ pad l.length)) = sum l := by
  have h := absorb_append (l.drop e ++ pad l.length) ((l.drop e ++ pad l.length).length / 64) (e / 64) st0 (l.take e) (by rw [List.length_take]; omega)
  rw [← h, ← List.append_assoc, List.take_append_drop]
  unfold sum padded
  have hp := pad_length l.length
  have hz := zeros_le l.length
  have : e / 64 + (l.drop e ++ pad l.length).length / 64 = (l ++ pad l.length).length / 64 := by
    rw [List.length_append, List.length_append, List.length_drop]; omega
  rw [this]

theorem sum_fin (b : ByteArray) (e : Nat) (he : e = b.size - b.size % 64) (P : ByteArray) (hP : P = ⟨(pad b.size).toArray⟩) (R : St) (hR : R = absorb ((b.extract 0 e).size / 64) st0 (b.extract 0 e).data.toList) :
    encode (absorb ((b.size - e + P.size) / 64) R (List.take (b.size - e) (List.drop e b.data.toList) ++ P.data.toList)) = sum b.data.toList := by
  have hl : b.data.toList.length = b.size := by simp
  have hPl : P.data.toList = pad b.size := by rw [hP]
  have hPs : P.size = (pad b.size).length := by rw [← hPl]; simp
  have h1 : (b.extract 0 e).data.toList = b.data.toList.take e := by rw [Lib.extract_data]; simp
  have h2 : (b.extract 0 e).size = e := by rw [← size_list, h1, List.length_take, hl]; omega
  have h3 : List.take (b.size - e) (List.drop e b.data.toList) = List.drop e b.data.toList := List.take_of_length_le (by rw [List.length_drop, hl]; exact Nat.le_refl _)
  have h4 : b.size - e + P.size = (b.data.toList.drop e ++ pad b.size).length := by rw [List.length_append, List.length_drop, hl, hPs]
  rw [hR, h1, h2, h3, hPl, h4, ← hl]
  exact sum_eq b.data.toList e (by rw [hl]; exact he)

section
variable {w w0 w1 : World}
theorem Lo.drew (w : World) : Hid (Below w.heap.size w w.drew) := (Below.refl _ w).drew
theorem Lo.first (w : World) (o : Obj) : Hid (Below w.heap.size w (w.alloc o).drew) := ((Below.refl _ w).alloc (Nat.le_refl _) o).drew
theorem Lo.call (h : Hid (Below w.heap.size w w0)) (h1 : Below w0.heap.size w0 w1) : Hid (Below w.heap.size w w1) := Below.trans h (h1.mono (Below.size h))
theorem Lo.alloc (h : Hid (Below w.heap.size w w0)) (o : Obj) : Hid (Below w.heap.size w (w0.alloc o)) := Below.alloc h (Below.size h) o
theorem Lo.setc (h : Hid (Below w.heap.size w w0)) {p : Addr} (hp : w.heap.size ≤ p.block) (u : Value) : Hid (Below w.heap.size w (w0.setCell p u)) := Below.setCell h hp u
theorem Lo.big (h : Hid (Below w.heap.size w w0)) : w.heap.size ≤ w0.heap.size := Below.size h
theorem Lo.tab (hT : Hid (Tab w)) (h : Hid (Below w.heap.size w w0)) : Tab w0 := Tab.below hT h (Tab.lt hT)
end
@[reducible] def EightA (X : Nat) (R : St) (wc w' : World) : Prop := w'.cell? ⟨X, 0, none⟩ = some (.int .u32 (U R.a)) ∧ w'.cell? ⟨X, 1, none⟩ = some (.int .u32 (U R.b)) ∧ w'.cell? ⟨X, 2, none⟩ = some (.int .u32 (U R.c)) ∧ w'.cell? ⟨X, 3, none⟩ = some (.int .u32 (U R.d)) ∧ w'.cell? ⟨X, 4, none⟩ = some (.int .u32 (U R.e)) ∧ w'.cell? ⟨X, 5, none⟩ = some (.int .u32 (U R.f)) ∧ w'.cell? ⟨X, 6, none⟩ = some (.int .u32 (U R.g)) ∧ w'.cell? ⟨X, 7, none⟩ = some (.int .u32 (U R.h)) ∧ Hid (Below wc.heap.size wc w')
section
variable {X : Nat} {R : St} {wc w0 w1 : World}
theorem EightA.mk (hat : At8 wc X R) (h : Below wc.heap.size wc w1) : EightA X R wc w1 :=
  have hX := block_lt_of_cell hat.1
  have e := fun i => h.cell (p := ⟨X, i, none⟩) hX
  ⟨(e 0).trans hat.1, (e 1).trans hat.2.1, (e 2).trans hat.2.2.1, (e 3).trans hat.2.2.2.1, (e 4).trans hat.2.2.2.2.1, (e 5).trans hat.2.2.2.2.2.1, (e 6).trans hat.2.2.2.2.2.2.1, (e 7).trans hat.2.2.2.2.2.2.2, h⟩
theorem EightA.drew (hat : Hid (At8 wc X R)) : EightA X R wc wc.drew := EightA.mk hat (Below.refl _ wc).drew
theorem EightA.call (hat : Hid (At8 wc X R)) (h : EightA X R wc w0) (h1 : Below w0.heap.size w0 w1) : EightA X R wc w1 :=
  have h0 : Below wc.heap.size wc w0 := h.2.2.2.2.2.2.2.2
  EightA.mk hat (h0.trans (h1.mono h0.size))
theorem EightA.last (h : EightA X R wc w0) : Hid (Below wc.heap.size wc w0) := h.2.2.2.2.2.2.2.2
theorem EightA.tab (hT : Hid (Tab wc)) (h : EightA X R wc w0) : Tab w0 :=
  have h0 : Below wc.heap.size wc w0 := h.2.2.2.2.2.2.2.2
  Tab.below hT h0 (Tab.lt hT)
end

theorem absorb_lit (s : St) (b : ByteArray) (hb : b.size ≤ 9223372036854775807) (w : World) (hT : Tab w) :
    Calls Tryz.prog 75 #[.agg (arr s.ws), .string b] w fun e w' => e = .returned (.agg #[.int .u32 (U (absorb (b.size / 64) s b.data.toList).a), .int .u32 (U (absorb (b.size / 64) s b.data.toList).b), .int .u32 (U (absorb (b.size / 64) s b.data.toList).c), .int .u32 (U (absorb (b.size / 64) s b.data.toList).d), .int .u32 (U (absorb (b.size / 64) s b.data.toList).e), .int .u32 (U (absorb (b.size / 64) s b.data.toList).f), .int .u32 (U (absorb (b.size / 64) s b.data.toList).g), .int .u32 (U (absorb (b.size / 64) s b.data.toList).h)]) ∧ Below w.heap.size w w' :=
  absorb_any s b hb w hT

set_option maxHeartbeats 2000000 in
set_option maxRecDepth 100000 in
theorem sum_any (b : ByteArray) (hb : b.size ≤ 9223372036854775000) (w : World) (hT : Tab w) :
    Calls Tryz.prog 58 #[.string b] w fun e w' => e = .returned (.string ⟨(sum b.data.toList).toArray⟩) ∧ Below w.heap.size w w' := by
  have HT := Lib.hid hT
  clear hT
  obtain ⟨e, he⟩ : ∃ e, e = b.size - b.size % 64 := ⟨_, rfl⟩
  have heI : (b.size : Int) - (b.size : Int) % 64 = (e : Int) := by omega
  have hle : e ≤ b.size := by omega
  have hleI : (e : Int) ≤ (b.size : Int) := by omega
  have HE := Lib.hid he
  clear he
  go_enter Tryz.func58, Tryz.ntmps58
  go_upto_region 2 with fail
  go_cut [4] (fun v wc => ∃ X : Nat, v = .pointer (some ⟨X, 0, none⟩) ∧ At8 wc X (absorb ((b.extract 0 e).size / 64) st0 (b.extract 0 e).data.toList) ∧ Hid (Below w.heap.size w wc))
  case first =>
    go_region_held3 (fun w' => Hid (Below w.heap.size w w')) ((first | (with_reducible exact Lo.drew _) | (with_reducible exact Lo.first _ _) | (with_reducible assumption) | (with_reducible exact Lo.alloc (by assumption) _) | ((repeat (with_reducible refine Lo.setc ?_ (by first | exact Nat.le_refl _ | exact Lo.big (by assumption)) _)); (with_reducible assumption)))) (first
      | (go_at_call 76; refine (initial_any _).mono ?_; rintro e w1 ⟨rfl, hb1⟩; have HS1 := Lo.call (by assumption) hb1; obtain ⟨hc, hf⟩ := bcell hb1; (try (have hz1 : w.heap.size < w1.heap.size := by (have hq := hb1.size; simp at hq; omega))); clear hb1)
      | (go_at_call 75; refine (absorb_lit st0 (b.extract 0 e) (by simp; omega) _ (Lo.tab HT (by assumption))).mono ?_; rintro e w1 ⟨rfl, hb1⟩; have HS1 := Lo.call (by assumption) hb1; obtain ⟨hc, hf⟩ := bcell hb1; (try (have hz1 : w.heap.size < w1.heap.size := by (have hq := hb1.size; simp at hq; omega))); clear hb1))
    all_goals
      go_wp2_with fail
      go_meet
      refine ⟨_, rfl, ?_, ?_⟩
      · unfold At8
        go_simp
      · first | (with_reducible assumption)
  case rest =>
    obtain ⟨X, rfl, hat0, hbw⟩ := hcut
    obtain ⟨R, eR⟩ : ∃ R, R = absorb ((b.extract 0 e).size / 64) st0 (b.extract 0 e).data.toList := ⟨_, rfl⟩
    rw [← eR] at hat0
    have ER := Lib.hid eR
    have hat := Lib.hid hat0
    have HTc := Lib.hid (HT.out.below hbw.out HT.out.lt)
    clear hat0 eR
    obtain ⟨P, eP⟩ : ∃ P : ByteArray, P = ⟨(pad b.size).toArray⟩ := ⟨_, rfl⟩
    have hPs : P.size ≤ 72 := by rw [eP]; have h1 := pad_length b.size; have h2 := zeros_le b.size; show (pad b.size).toArray.size ≤ 72; simp; omega
    have hpad := fun W => pad_any b.size (by omega) W
    rw [← eP] at hpad
    have HP := Lib.hid hpad
    have EP := Lib.hid eP
    clear hpad eP
    have hadd : ¬ 9223372036854775807 < b.size - e + P.size := by omega
    go_wp2_with fail
    go_region_held3 (fun w' => w'.cell? ⟨X, 0, none⟩ = some (.int .u32 (U R.a)) ∧ w'.cell? ⟨X, 1, none⟩ = some (.int .u32 (U R.b)) ∧ w'.cell? ⟨X, 2, none⟩ = some (.int .u32 (U R.c)) ∧ w'.cell? ⟨X, 3, none⟩ = some (.int .u32 (U R.d)) ∧ w'.cell? ⟨X, 4, none⟩ = some (.int .u32 (U R.e)) ∧ w'.cell? ⟨X, 5, none⟩ = some (.int .u32 (U R.f)) ∧ w'.cell? ⟨X, 6, none⟩ = some (.int .u32 (U R.g)) ∧ w'.cell? ⟨X, 7, none⟩ = some (.int .u32 (U R.h)) ∧ Hid (Below wc.heap.size wc w')) ((first | (with_reducible exact EightA.drew hat) | (with_reducible exact Hid.out (by assumption)))) (first
      | (go_at_call 78; refine (HP.out _).mono ?_; rintro e w1 ⟨rfl, hb1⟩; have HS1 := Lib.hid (EightA.call hat (by assumption) hb1); clear hb1)
      | (go_at_call 75; refine (absorb_any R (b.extract e b.size ++ P) (by simp; omega) _ (EightA.tab HTc (by assumption))).mono ?_; rintro e w1 ⟨rfl, hb1⟩; have HS1 := Lib.hid (EightA.call hat (by assumption) hb1); clear hb1)
      | (go_at_call 77; refine (encode_any _ _).mono ?_; rintro e w1 ⟨rfl, hb1⟩; have HS1 := Lib.hid (EightA.call hat (by assumption) hb1); clear hb1))
    go_wp2_with fail
    go_ret
    refine ⟨ret_string ?_, ?_⟩
    · exact sum_fin b e HE.out P EP.out R ER.out
    · refine hbw.out.trans (Below.mono (B := wc.heap.size) ?_ hbw.out.size)
      first | (with_reducible exact Hid.out (EightA.last (by assumption))) | (with_reducible exact Hid.out (EightA.last (Hid.out (by assumption))))

end Go.Proofs.YtnkkckmejjcfkaaGreatDoor.Sp

/- Package sha: the input of a list of parts, and its sum. -/
namespace Go.Proofs.YtnkkckmejjcfkaaGreatDoor.Sp
open Go Go.RowKit
set_option maxRecDepth 100000

/-- A slice value over n texts. -/
def Strs (w : World) (a : Option Addr) (n : Nat) (ss : List ByteArray) : Prop :=
  ss.length = n ∧ (0 < n → ∃ b off, a = some ⟨b, off, none⟩ ∧ ∀ j, j < n → w.cell? ⟨b, off + j, none⟩ = some (.string (ss.getD j ByteArray.empty)))
theorem Strs.below {w w' : World} {a : Option Addr} {n : Nat} {ss : List ByteArray} (h : Strs w a n ss) (hb : Below w.heap.size w w') : Strs w' a n ss :=
  ⟨h.1, fun hn => by
    obtain ⟨b, off, e, hc⟩ := h.2 hn
    exact ⟨b, off, e, fun j hj => (hb.cell (p := ⟨b, off + j, none⟩) (block_lt_of_cell (hc j hj))).trans (hc j hj)⟩⟩

/-- The bytes of the first k parts, each behind its length. -/
def partB (s : ByteArray) : List UInt8 := bytes4 (BitVec.ofNat 32 s.size) ++ s.data.toList
def inp (d : UInt8) (ss : List ByteArray) (k : Nat) : List UInt8 := d :: (ss.take k).flatMap partB
def inB (d : UInt8) (ss : List ByteArray) : List UInt8 := d :: ss.flatMap partB
def len2 (ss : List ByteArray) (k : Nat) : Nat := 1 + ((ss.take k).map fun s => 4 + s.size).sum
theorem take_getB (ss : List ByteArray) (k : Nat) (hk : k < ss.length) : ss.take (k + 1) = ss.take k ++ [ss.getD k ByteArray.empty] := by
  rw [List.take_succ_eq_append_getElem hk, List.getD_eq_getElem?_getD, List.getElem?_eq_getElem hk]; rfl
theorem inp_succ (d : UInt8) (ss : List ByteArray) (k : Nat) (hk : k < ss.length) : inp d ss (k + 1) = inp d ss k ++ bytes4 (BitVec.ofNat 32 (ss.getD k ByteArray.empty).size) ++ (ss.getD k ByteArray.empty).data.toList := by
  unfold inp; rw [take_getB ss k hk]; simp [partB]
theorem inp_all (d : UInt8) (ss : List ByteArray) : inp d ss ss.length = inB d ss := by unfold inp inB; rw [List.take_length]
theorem len2_succ (ss : List ByteArray) (k : Nat) (hk : k < ss.length) : len2 ss (k + 1) = len2 ss k + (4 + (ss.getD k ByteArray.empty).size) := by
  unfold len2; rw [take_getB ss k hk]; simp; omega
theorem inp_length (d : UInt8) (ss : List ByteArray) (k : Nat) : (inp d ss k).length = len2 ss k := by
  unfold inp len2
  generalize ss.take k = l
  induction l with
  | nil => rfl
  | cons x l ih => simp [List.flatMap_cons, partB, bytes4_length] at ih ⊢; omega
theorem len2_mono (ss : List ByteArray) (k m : Nat) (h : k ≤ m) : len2 ss k ≤ len2 ss m := by
  induction m with
  | zero => have : k = 0 := by omega
            subst this; exact Nat.le_refl _
  | succ m ih =>
    by_cases hk : k = m + 1
    · subst hk; exact Nat.le_refl _
    · have := ih (by omega)
      by_cases hm : m < ss.length
      · rw [len2_succ ss m hm]; omega
      · unfold len2 at *
        rw [List.take_of_length_le (by omega : ss.length ≤ m + 1)]
        rw [List.take_of_length_le (by omega : ss.length ≤ m)] at this
        exact this
theorem strCells_eq (s : ByteArray) : Lib.strCells s = byteVs s.data.toList := by
  rfl

theorem run_make_in (c : Nat) (hc : 1 ≤ c) (hc2 : c ≤ 281474976710656) (u : World) : (Instr.makeSlice 62 (.int .i64 1) (.int .i64 (c : Int))).run Tryz.prog u =
    .ok (.slice (some ⟨u.heap.size, 0, none⟩) 1 c) (u.alloc (.cells (madeCells #[.int .u8 0] c) 5)) := by
  obtain ⟨i0, hi, hz0, hz1, hz2⟩ := info_parts infoByte
  have h := run_make (P := Tryz.prog) u 62 5 i0 (.int .u8 0) Tryz.underlying62 hi hz0 .i64 .i64 1 (c : Int) (by omega) (by omega) (by rw [hz2]; omega) (by omega)
  have e2 : ((c : Int)).toNat = c := by omega
  rw [e2] at h
  simpa [hz1, Value.cells] using h
theorem own_in (w : World) (c : Nat) (hc : 1 ≤ c) (hc2 : c ≤ 281474976710656) (d : UInt8) (base : Nat) (hb : base ≤ w.heap.size) :
    Own (w.alloc (.cells ((madeCells #[.int .u8 0] c).setIfInBounds 0 (.int .u8 (d.toNat : Int))) 5)) base (.slice (some ⟨w.heap.size, 0, none⟩) 1 c) [d] := by
  refine ⟨by simp [byteVs], .inr ⟨w.heap.size, c, _, rfl, hb, heap_alloc_new w _, hc, by unfold maxLen; omega, by simp [size_madeCells], ?_⟩⟩
  rw [Array.toList_setIfInBounds, madeCells_toList]
  obtain ⟨c', rfl⟩ : ∃ c', c = c' + 1 := ⟨c - 1, by omega⟩
  simp [byteVs, byteV, List.replicate_succ]

section
attribute [local go_sem] wrap8_U shr24_U shr16_U shr8_U
set_option maxHeartbeats 400000 in
/-- Four bytes more, where there is room. -/
theorem appendWord_fits (x : W) (g n c : Nat) (l : List UInt8) (base : Nat) (w : World) (hown : Own w base (.slice (some ⟨g, 0, none⟩) n c) l) (hroom : n + 4 ≤ c) :
    Calls Tryz.prog 87 #[.slice (some ⟨g, 0, none⟩) n c, .int .u32 (U x)] w fun e w' => e = .returned (.slice (some ⟨g, 0, none⟩) (n + 4) c) ∧ Own w' base (.slice (some ⟨g, 0, none⟩) (n + 4) c) (l ++ bytes4 x) ∧ w.grownBy w' (some g) := by
  obtain ⟨i0, hi, hz0, hz1, hz2⟩ := info_parts infoByte
  unfold Own at hown
  have hn : l.length = n := by
    rcases hown.2 with ⟨h1, _⟩ | ⟨_, _, _, h1, _⟩
    · cases h1
    · injection h1 with _ h2 _; exact h2.symm
  rw [hn] at hown
  go_enter Tryz.func87, Tryz.ntmps87
  go_wp2_with (first
    | (at_builtin; refine wpList_append_own_spare _ rfl (.tmp 5) (.tmp 17) 62 rfl base 5 i0 1 Tryz.underlying62 hi hz1 g n c _ rfl (hown.alloc _) ⟨w.heap.size, 0, none⟩ 4 4 [byteV (lowB (x >>> 24)), byteV (lowB (x >>> 16)), byteV (lowB (x >>> 8)), byteV (lowB x)] rfl rfl ?c1 ?c2 hroom ?_))
  case c1 => intro j u hj; exact new_cell _ _ _ hj
  case c2 => intro u hu; simp at hu; rcases hu with rfl | rfl | rfl | rfl <;> rfl
  intro w1 hown1 hgrow
  have HO := Lib.hid hown1
  have HG := Lib.hid hgrow
  clear hown1 hgrow hown
  go_wp2
  go_ret
  refine ⟨rfl, ?_, grown_of_alloc HG.out⟩
  unfold Own
  rw [byteVs_append, List.length_append, hn]
  exact HO.out
end

set_option maxHeartbeats 2000000 in
theorem input_any (d : UInt8) (a : Option Addr) (n c : Nat) (ss : List ByteArray) (w : World) (h : Strs w a n ss) (hn : n ≤ 9223372036854775807) (hlen : len2 ss n ≤ 281474976710656) :
    Calls Tryz.prog 79 #[.int .u8 (d.toNat : Int), .slice a n c] w fun e w' => e = .returned (.string ⟨(inB d ss).toArray⟩) ∧ Below w.heap.size w w' := by
  have HH := Lib.hid h
  have HN := Lib.hid h.1
  clear h
  go_enter Tryz.func79, Tryz.ntmps79
  go_wp2_with fail
  go_loop [5, 13] (fun v i => ∃ k : Nat, k ≤ n ∧ v = .int .i64 ((len2 ss k : Nat) : Int) ∧ i = .int .i64 (k : Int)) (fun _ i => n - (intOf i).toNat)
  case atStart => exact ⟨0, Nat.zero_le _, rfl, rfl⟩
  case round =>
    obtain ⟨k, hk, rfl, rfl⟩ := hrel
    have hmono := len2_mono ss k n hk
    by_cases hlt : k < n
    · obtain ⟨b, off, rfl, hc⟩ := HH.out.2 (by omega)
      obtain ⟨S, eS⟩ : ∃ S, S = ss.getD k ByteArray.empty := ⟨_, rfl⟩
      have hcell := hc k hlt
      rw [← eS] at hcell
      have hs2 : len2 ss (k + 1) = len2 ss k + (4 + S.size) := by rw [eS]; exact len2_succ ss k (by rw [HN.out]; exact hlt)
      have hm2 := len2_mono ss (k + 1) n (by omega)
      have hss : S.size ≤ 281474976710656 := by omega
      have hsum : len2 ss k + (4 + S.size) ≤ 281474976710656 := by omega
      have HS2 := Lib.hid hs2
      clear hs2 hm2 hc eS
      go_wp2_with fail
      go_round
      case rel => exact ⟨k + 1, by omega, by rw [HS2.out]; go_num, by go_num⟩
      case measure => simp [intOf]; omega
    · have hkn : k = n := by omega
      rw [hkn] at hmono ⊢
      clear hkn hmono hlt hk
      obtain ⟨L, eL⟩ : ∃ L : Nat, L = len2 ss n := ⟨_, rfl⟩
      have hL0 := len2_mono ss 0 n (Nat.zero_le _)
      have hL1 : 1 ≤ L := by rw [eL]; exact Nat.le_trans (by unfold len2; exact Nat.le_add_right 1 _) hL0
      rw [← eL] at hlen ⊢
      have EL := Lib.hid eL
      clear eL hL0
      have hm0 := madeCells_head L (by omega)
      have hmk := run_make_in L hL1 (by omega)
      go_wp2_with fail
      go_loopw [8, 30] (fun v i wr => ∃ k : Nat, k ≤ n ∧ v = .slice (some ⟨w.heap.size, 0, none⟩) (inp d ss k).length L ∧ Own wr w.heap.size v (inp d ss k) ∧ i = .int .i64 (k : Int) ∧ Below w.heap.size w wr) (fun _ i _ => n - (intOf i).toNat)
      case atStart => exact ⟨0, Nat.zero_le _, rfl, own_in w L hL1 (by omega) d w.heap.size (Nat.le_refl _), rfl, (Below.refl _ _).alloc (Nat.le_refl _) _⟩
      case round =>
        clear hmk hm0
        obtain ⟨k, hk, rfl, hown, rfl, hbel⟩ := hrel
        have HO := Lib.hid hown
        have HB := Lib.hid hbel
        have hsz := hbel.size
        clear hown hbel
        by_cases hlt : k < n
        · obtain ⟨b, off, rfl, hc⟩ := HH.out.2 (by omega)
          obtain ⟨S, eS⟩ : ∃ S, S = ss.getD k ByteArray.empty := ⟨_, rfl⟩
          have hcell0 := hc k hlt
          have hcell : wr.cell? ⟨b, off + k, none⟩ = some (.string S) := by
            rw [eS]; exact (HB.out.cell (p := ⟨b, off + k, none⟩) (block_lt_of_cell hcell0)).trans hcell0
          have hs2 : len2 ss (k + 1) = len2 ss k + (4 + S.size) := by rw [eS]; exact len2_succ ss k (by rw [HN.out]; exact hlt)
          have hm2 := len2_mono ss (k + 1) n (by omega)
          have hLn := EL.out
          have hil := inp_length d ss k
          have hss : S.size ≤ 281474976710656 := by omega
          have hi1 : (inp d ss k).length + 4 + S.size ≤ L := by omega
          have hsucc := Lib.hid (show inp d ss (k + 1) = inp d ss k ++ bytes4 (BitVec.ofNat 32 S.size) ++ S.data.toList from by rw [eS]; exact inp_succ d ss k (by rw [HN.out]; exact hlt))
          have hu : (S.size : Int) % 4294967296 = U (BitVec.ofNat 32 S.size) := by rw [← IntKind.wrap_u32', wrap_u32_nat]
          clear hs2 hm2 hc eS hcell0 hLn hil
          go_wp2_with fail
          refine (appendWord_fits (BitVec.ofNat 32 S.size) w.heap.size (inp d ss k).length L (inp d ss k) w.heap.size _ HO.out (by omega)).mono ?_
          rintro e w1 ⟨rfl, hown1, hg1⟩
          have HO1 := Lib.hid hown1
          have HB1 := Lib.hid (HB.out.grown hg1 hsz (fun k' hk' => by cases hk'; exact Nat.le_refl _))
          have hsz1 := HB1.out.size
          clear hown1 hg1
          obtain ⟨i0, hi0, hz0, hz1, hz2⟩ := info_parts infoByte
          go_wp2_with (at_builtin; refine Lib.wpList_append_fits_string _ rfl (.tmp 39) (.tmp 40) 62 9 rfl w.heap.size 5 i0 Tryz.underlying62 Tryz.underlying9 hi0 hz1 (some ⟨w.heap.size, 0, none⟩) ((inp d ss k).length + 4) L (byteVs (inp d ss k ++ bytes4 (BitVec.ofNat 32 S.size))) rfl ?c0 S rfl (by omega) (by omega) ?_)
          case c0 => have h9 := HO1.out; unfold Own at h9; rw [List.length_append, bytes4_length] at h9; exact h9
          intro w2 hown2 hg2
          have hl2 := Lib.hid (show (inp d ss k).length + 4 + S.size = (inp d ss (k + 1)).length from by rw [hsucc.out, List.length_append, List.length_append, bytes4_length, size_list])
          have HO2 := Lib.hid (show Own w2 w.heap.size (.slice (some ⟨w.heap.size, 0, none⟩) ((inp d ss k).length + 4 + S.size) L) (inp d ss (k + 1)) from by
            unfold Own
            rw [← hl2.out, hsucc.out, byteVs_append]
            exact hown2)
          have HB2 := Lib.hid (HB1.out.grown hg2 hsz1 (fun k' hk' => by simp [Value.ownBlock] at hk'; omega))
          clear hown2 hg2
          go_wp2_with fail
          go_roundw
          case rel => exact ⟨k + 1, by omega, by rw [hl2.out], HO2.out, by go_num, HB2.out⟩
          case measure => simp [intOf]; omega
        · have hconv := run_text_of_own HO.out
          have hki : ¬ (k : Int) < (n : Int) := by omega
          have hkn : k = n := by omega
          have HKN := Lib.hid hkn
          clear hkn hlt hk
          go_wp2_with fail
          go_ret
          exact ⟨ret_string (by rw [HKN.out, ← HN.out]; exact inp_all d ss), HB.out⟩

end Go.Proofs.YtnkkckmejjcfkaaGreatDoor.Sp

/- Plain facts on SHA-256: a state is read back out of its text; blocks one behind the other. -/
namespace Go.Proofs.YtnkkckmejjcfkaaGreatDoor.Sp
open Go Go.RowKit
set_option maxRecDepth 100000

theorem lowB_byteW (y : W) : byteW (lowB y) = y &&& 255#32 := by
  unfold byteW lowB
  apply BitVec.eq_of_toNat_eq
  rw [BitVec.toNat_ofNat, UInt8.toNat_ofNat', BitVec.toNat_and]
  show y.toNat % 256 % 4294967296 = y.toNat &&& 255
  rw [show (255 : Nat) = 2 ^ 8 - 1 from rfl, Nat.and_two_pow_sub_one_eq_mod]
  omega
theorem word_bytes4 (x : W) : byteW (lowB (x >>> 24)) <<< 24 ||| byteW (lowB (x >>> 16)) <<< 16 ||| byteW (lowB (x >>> 8)) <<< 8 ||| byteW (lowB x) = x := by
  rw [lowB_byteW, lowB_byteW, lowB_byteW, lowB_byteW]
  apply BitVec.eq_of_getLsbD_eq
  intro i hi
  have h255 : ∀ j : Nat, (255#32).getLsbD j = decide (j < 8) := by
    intro j
    rw [show (255#32) = BitVec.ofNat 32 (2^8-1) from rfl, BitVec.getLsbD_ofNat, Nat.testBit_two_pow_sub_one]
    by_cases h : j < 8 <;> simp [h]; omega
  simp only [BitVec.getLsbD_or, BitVec.getLsbD_shiftLeft, BitVec.getLsbD_and, BitVec.getLsbD_ushiftRight, h255, hi, decide_true, Bool.true_and]
  by_cases h1 : i < 8
  · simp [h1, show i < 16 by omega, show i < 24 by omega]
  · by_cases h2 : i < 16
    · simp [h1, h2, show i < 24 by omega, show i - 8 < 8 by omega, show 8 + (i - 8) = i by omega]
    · by_cases h3 : i < 24
      · simp [h1, h2, h3, show ¬ i - 8 < 8 by omega, show i - 16 < 8 by omega, show 16 + (i - 16) = i by omega]
      · simp [h1, h2, h3, show ¬ i - 8 < 8 by omega, show ¬ i - 16 < 8 by omega, show i - 24 < 8 by omega, show 24 + (i - 24) = i by omega]
theorem decode_encode (s : St) : decode (encode s) = s := by
  obtain ⟨a, b, c, d, e, f, g, h⟩ := s
  have e0 : decode (encode ⟨a, b, c, d, e, f, g, h⟩) = ⟨byteW (lowB (a >>> 24)) <<< 24 ||| byteW (lowB (a >>> 16)) <<< 16 ||| byteW (lowB (a >>> 8)) <<< 8 ||| byteW (lowB a),
    byteW (lowB (b >>> 24)) <<< 24 ||| byteW (lowB (b >>> 16)) <<< 16 ||| byteW (lowB (b >>> 8)) <<< 8 ||| byteW (lowB b),
    byteW (lowB (c >>> 24)) <<< 24 ||| byteW (lowB (c >>> 16)) <<< 16 ||| byteW (lowB (c >>> 8)) <<< 8 ||| byteW (lowB c),
    byteW (lowB (d >>> 24)) <<< 24 ||| byteW (lowB (d >>> 16)) <<< 16 ||| byteW (lowB (d >>> 8)) <<< 8 ||| byteW (lowB d),
    byteW (lowB (e >>> 24)) <<< 24 ||| byteW (lowB (e >>> 16)) <<< 16 ||| byteW (lowB (e >>> 8)) <<< 8 ||| byteW (lowB e),
    byteW (lowB (f >>> 24)) <<< 24 ||| byteW (lowB (f >>> 16)) <<< 16 ||| byteW (lowB (f >>> 8)) <<< 8 ||| byteW (lowB f),
    byteW (lowB (g >>> 24)) <<< 24 ||| byteW (lowB (g >>> 16)) <<< 16 ||| byteW (lowB (g >>> 8)) <<< 8 ||| byteW (lowB g),
    byteW (lowB (h >>> 24)) <<< 24 ||| byteW (lowB (h >>> 16)) <<< 16 ||| byteW (lowB (h >>> 8)) <<< 8 ||| byteW (lowB h)⟩ := rfl
  rw [e0]; simp only [word_bytes4]
theorem absorb_succ : ∀ (k : Nat) (s : St) (l : List UInt8), absorb (k + 1) s l = compress (absorb k s l) ((l.drop (64 * k)).take 64) := by
  intro k
  induction k with
  | zero => intro s l; simp [absorb]
  | succ k ih =>
    intro s l
    rw [absorb, ih, List.drop_drop]
    rw [show absorb (k + 1) s l = absorb k (compress s (l.take 64)) (l.drop 64) from rfl, show 64 + 64 * k = 64 * (k + 1) by omega]

/-- The text of a state, as bytes. -/
def encB (s : St) : ByteArray := ⟨(encode s).toArray⟩
theorem encB_size (s : St) : (encB s).size = 32 := by unfold encB; show (encode s).toArray.size = 32; rw [List.size_toArray]; exact encode_length s
theorem encB_list (s : St) : (encB s).data.toList = encode s := rfl
theorem extract_block (A : ByteArray) (j : Nat) : (A.extract j (j + 64)).data.toList = (A.data.toList.drop j).take 64 := by
  rw [Lib.extract_data, show j + 64 - j = 64 by omega]
/-- One block more. -/
theorem step_block (A : ByteArray) (s : St) (j : Nat) (hj : j % 64 = 0) :
    encB (compress (decode (encB (absorb (j / 64) s A.data.toList)).data.toList) (A.extract j (j + 64)).data.toList) = encB (absorb ((j + 64) / 64) s A.data.toList) := by
  rw [encB_list, decode_encode, extract_block, show (j + 64) / 64 = j / 64 + 1 by omega, absorb_succ, show 64 * (j / 64) = j by omega]
theorem sumB (b : ByteArray) (A : ByteArray) (hA : A.data.toList = padded b.data.toList) : encB (absorb (A.size / 64) st0 A.data.toList) = ⟨(sum b.data.toList).toArray⟩ := by
  unfold encB sum; rw [← hA, size_list]

end Go.Proofs.YtnkkckmejjcfkaaGreatDoor.Sp

/- Inputs of unlike parts are unlike. -/
namespace Go.Proofs.YtnkkckmejjcfkaaGreatDoor.Sp
open Go
set_option maxRecDepth 100000

theorem bytes4_inj (x y : W) (h : bytes4 x = bytes4 y) : x = y := by
  unfold bytes4 at h
  injection h with h1 h
  injection h with h2 h
  injection h with h3 h
  injection h with h4 _
  rw [← word_bytes4 x, ← word_bytes4 y, h1, h2, h3, h4]
theorem partB_inj (s t : ByteArray) (r q : List UInt8) (hs : s.size < 4294967296) (ht : t.size < 4294967296) (h : partB s ++ r = partB t ++ q) : s = t ∧ r = q := by
  unfold partB at h
  rw [List.append_assoc, List.append_assoc] at h
  obtain ⟨h1, h2⟩ := List.append_inj h (by rw [bytes4_length, bytes4_length])
  have h3 := congrArg BitVec.toNat (bytes4_inj _ _ h1)
  rw [BitVec.toNat_ofNat, BitVec.toNat_ofNat] at h3
  obtain ⟨h4, h5⟩ := List.append_inj h2 (by rw [size_list, size_list]; omega)
  refine ⟨?_, h5⟩
  have h6 : s.data = t.data := Array.toList_inj.1 h4
  cases s; cases t; simp only at h6; rw [h6]
theorem flat_inj : ∀ (a b : List ByteArray), (∀ s ∈ a, s.size < 4294967296) → (∀ s ∈ b, s.size < 4294967296) → a.flatMap partB = b.flatMap partB → a = b
  | [], [], _, _, _ => rfl
  | [], t :: b, _, _, h => by
    exfalso
    have := congrArg List.length h
    simp [List.flatMap_cons, partB, bytes4_length] at this
    omega
  | s :: a, [], _, _, h => by
    exfalso
    have := congrArg List.length h
    simp [List.flatMap_cons, partB, bytes4_length] at this
  | s :: a, t :: b, h1, h2, h => by
    rw [List.flatMap_cons, List.flatMap_cons] at h
    obtain ⟨e1, e2⟩ := partB_inj s t _ _ (h1 s (by simp)) (h2 t (by simp)) h
    rw [e1, flat_inj a b (fun x hx => h1 x (by simp [hx])) (fun x hx => h2 x (by simp [hx])) e2]
theorem inB_inj (d e : UInt8) (a b : List ByteArray) (h1 : ∀ s ∈ a, s.size < 4294967296) (h2 : ∀ s ∈ b, s.size < 4294967296) (h : inB d a = inB e b) : d = e ∧ a = b := by
  unfold inB at h
  injection h with h3 h4
  exact ⟨h3, flat_inj a b h1 h2 h4⟩
end Go.Proofs.YtnkkckmejjcfkaaGreatDoor.Sp
