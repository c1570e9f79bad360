/- Package path: parseAs: what the elements of a kind make of a text. -/
import Derived.Test.YtakfplkdjapooaaDoorPthElp
import Derived.Test.YtakfplkdjapooaaDoorPthHas
namespace Go.Proofs.YtakfplkdjapooaaDoor.Sp
open Go Go.RowKit

def okEl (e : Nat × List UInt8) (t : List UInt8) : Prop := if e.1 = 1 then t = e.2 else parE t = 0
instance (e : Nat × List UInt8) (t : List UInt8) : Decidable (okEl e t) := by unfold okEl; infer_instance
def updA (e : Nat × List UInt8) (t : List UInt8) (a : Nat) : Nat := if e.1 = 2 then parN t else a
def updB (e : Nat × List UInt8) (t : List UInt8) (b : Nat) : Nat := if e.1 = 3 then parN t else b
/-- The numbers that elements find in a text, and whether more follows; none, if the text does not fit. -/
def goEls : List (Nat × List UInt8) → List UInt8 → Bool → Nat → Nat → Option (Nat × Nat × Bool)
  | [], _, m, a, b => some (a, b, m)
  | e :: l, s, m, a, b => if e.1 = 0 then some (a, b, m) else if okEl e (cutA s) then goEls l (cutR s) (cutM s) (updA e (cutA s) a) (updB e (cutA s) b) else none

theorem els_role (k j : Nat) (h1 : 1 ≤ k) (h8 : k ≤ 8) (e : Nat × List UInt8) (h : (els k)[j]? = some e) : e.1 ≤ 3 := by
  have hj : j < 5 := by
    have := (List.getElem?_eq_some_iff.1 h).1
    rwa [els_len] at this
  have hall : ∀ k : Fin 9, ∀ e ∈ els k.val, e.1 ≤ 3 := by decide
  exact hall ⟨k, by omega⟩ e (List.mem_of_getElem? h)
theorem els_lit2 (k : Nat) (h1 : 1 ≤ k) (h8 : k ≤ 8) : ∃ (r0 : Int) (S0 : ByteArray) (r1 : Int) (S1 : ByteArray) (r2 : Int) (S2 : ByteArray) (r3 : Int) (S3 : ByteArray) (r4 : Int) (S4 : ByteArray),
    elsV k = #[.int .i64 r0, .string S0, .int .i64 r1, .string S1, .int .i64 r2, .string S2, .int .i64 r3, .string S3, .int .i64 r4, .string S4] := by
  match k, h1, h8 with
  | 1, _, _ | 2, _, _ | 3, _, _ | 4, _, _ | 5, _, _ | 6, _, _ | 7, _, _ | 8, _, _ => exact ⟨_, _, _, _, _, _, _, _, _, _, rfl⟩

theorem elp_any (r : Nat) (u : List UInt8) (S t : ByteArray) (hS : ⟨u.toArray⟩ = S) (hr : r = 1 ∨ r = 2 ∨ r = 3) (ht : t.size ≤ 9223372036854775807) (A : List UInt8) (hA : t.data.toList = A) (g : Nat) (K : Int) (a b : Nat) (w : World) (hg : Blk w g 24 #[.int .i64 K, .int .u64 (a : Int), .int .u64 (b : Int)]) :
    Calls Tryd.prog 28 #[.agg #[.int .i64 (r : Int), .string S], .string t, .pointer (some ⟨g, 0, none⟩)] w fun e w' =>
      e = .returned (.bool (decide (okEl (r, u) A))) ∧ Blk w' g 24 #[.int .i64 K, .int .u64 (updA (r, u) A a : Int), .int .u64 (updB (r, u) A b : Int)] ∧ Only g w w' := by
  subst hA
  rcases hr with rfl | rfl | rfl
  · refine (elp_word S t _ w).mono ?_
    rintro e w' ⟨rfl, hb⟩
    refine ⟨?_, hg.below hb hg.lt, Only.of_below g hb⟩
    have : (t.toList == S.toList) = decide (okEl (1, u) t.data.toList) := by
      rw [ByteArray.toList_eq, ByteArray.toList_eq, ← hS]
      rw [Bool.eq_iff_iff, beq_iff_eq, decide_eq_true_iff]
      exact Iff.rfl
    rw [this]
  · refine (elp_A S t ht g K a b w hg).mono ?_
    rintro e w' ⟨rfl, hb, ho⟩
    refine ⟨?_, hb, ho⟩
    rw [show (parE t.data.toList == 0) = decide (okEl (2, u) t.data.toList) from by rw [Bool.eq_iff_iff, beq_iff_eq, decide_eq_true_iff]; exact Iff.rfl]
  · refine (elp_B S t ht g K a b w hg).mono ?_
    rintro e w' ⟨rfl, hb, ho⟩
    refine ⟨?_, hb, ho⟩
    rw [show (parE t.data.toList == 0) = decide (okEl (3, u) t.data.toList) from by rw [Bool.eq_iff_iff, beq_iff_eq, decide_eq_true_iff]; exact Iff.rfl]

/-- What parseAs comes to. -/
def Parsed (k : Nat) (s : List UInt8) (w : World) (e : Ending) (w' : World) : Prop :=
  ∃ (K : Int) (a b : Nat) (ok : Bool), e = .returned (.tuple #[pathV K a b, .bool ok]) ∧ Below w.heap.size w w' ∧
    ((ok = true ∧ K = (k : Int) ∧ goEls (els k) s true 0 0 = some (a, b, false)) ∨ (ok = false ∧ ∀ a' b', goEls (els k) s true 0 0 ≠ some (a', b', false)))

set_option maxHeartbeats 2000000 in
theorem pas_any (k : Nat) (s : ByteArray) (h1 : 1 ≤ k) (h8 : k ≤ 8) (hs : s.size ≤ 9223372036854775807) (w : World) :
    Calls Tryd.prog 21 #[.int .i64 (k : Int), .string s] w (Parsed k s.data.toList w) := by
  obtain ⟨r0, S0, r1, S1, r2, S2, r3, S3, r4, S4, hV⟩ := els_lit2 k h1 h8
  have hix := fun j e h W => index_el k j e h W
  have HE := Lib.hid (elements_any k h1 h8)
  rw [hV] at hix HE
  have HIX := Lib.hid hix
  clear hV hix
  have HS := Lib.hid hs
  clear hs
  go_enter Tryd.func21, Tryd.ntmps21
  go_wp2_with fail
  refine (HE.out _).mono ?_
  rintro e w1 ⟨rfl, hb1⟩
  have HZ0 := Lib.hid (((Blk.new w 24 #[.int .i64 0, .int .u64 0, .int .u64 0]).alloc (.cells #[.int .i64 (k : Int), .int .u64 0, .int .u64 0] 24)).below hb1 (by simp; omega))
  have HP0 := Lib.hid (show Blk w1 (w.heap.size + 1) 24 #[.int .i64 (k : Int), .int .u64 0, .int .u64 0] from by
    have h := Blk.new (w.alloc (.cells #[.int .i64 0, .int .u64 0, .int .u64 0] 24)) 24 #[.int .i64 (k : Int), .int .u64 0, .int .u64 0]
    rw [size_alloc_] at h
    exact h.below hb1 (by simp))
  have HB0 := Lib.hid (show Below w.heap.size w w1 from (below_more (below_more (Below.refl _ _) _) _).trans (hb1.mono (by simp; omega)))
  clear hb1
  go_wp2_with fail
  go_loopw [7, 8, 9, 11, 17] (fun _ v8 v9 _ i wr => ∃ (j : Nat) (R : ByteArray) (more : Bool) (a b : Nat), j ≤ 5 ∧ i = .int .i64 (j : Int) ∧ v8 = .string R ∧ v9 = .bool more ∧ Hid (R.size ≤ 9223372036854775807) ∧
    Hid (Blk wr w.heap.size 24 #[.int .i64 0, .int .u64 0, .int .u64 0]) ∧ Hid (Blk wr (w.heap.size + 1) 24 #[.int .i64 (k : Int), .int .u64 (a : Int), .int .u64 (b : Int)]) ∧ Hid (Below w.heap.size w wr) ∧ Hid (goEls ((els k).drop j) R.data.toList more a b = goEls (els k) s.data.toList true 0 0)) (fun _ _ _ _ i _ => 5 - (intOf i).toNat)
  case atStart => exact ⟨0, s, true, 0, 0, by omega, rfl, rfl, rfl, HS, HZ0, HP0, HB0, Lib.hid rfl⟩
  case round =>
    obtain ⟨j, R, more, a, b, hj, rfl, rfl, rfl, HR, HZ, HP, HB, HG⟩ := hrel
    by_cases hlt : j < 5
    · obtain ⟨⟨r, u⟩, hru⟩ : ∃ e, (els k)[j]? = some e := ⟨_, List.getElem?_eq_getElem (by rw [els_len]; exact hlt)⟩
      have hi5 := HIX.out j _ hru
      simp only at hi5
      have hr3 := els_role k j h1 h8 _ hru
      simp only at hr3
      have hdrop : (els k).drop j = (r, u) :: (els k).drop (j + 1) := by
        rw [List.drop_eq_getElem_cons (by rw [els_len]; exact hlt)]
        rw [List.getElem?_eq_getElem (by rw [els_len]; exact hlt)] at hru
        injection hru with hru
        rw [hru]
      obtain ⟨S, hS⟩ : ∃ S : ByteArray, ⟨u.toArray⟩ = S := ⟨_, rfl⟩
      rw [hS] at hi5
      have HG2 := Lib.hid (show goEls ((r, u) :: (els k).drop (j + 1)) R.data.toList more a b = goEls (els k) s.data.toList true 0 0 from by rw [← hdrop]; exact HG.out)
      have HRS := Lib.hid hS
      have hlti : (j : Int) < 5 := by omega
      have hlp := HP.out.lt
      clear hru hS hdrop hlt HG
      by_cases hr0 : r = 0
      · subst hr0
        have HEnd := Lib.hid (show goEls (els k) s.data.toList true 0 0 = some (a, b, more) from by rw [← HG2.out]; rfl)
        obtain ⟨c0, c1, c2⟩ : wr.cell? ⟨w.heap.size + 1, 0, none⟩ = some (.int .i64 (k : Int)) ∧ wr.cell? ⟨w.heap.size + 1, 1, none⟩ = some (.int .u64 (a : Int)) ∧ wr.cell? ⟨w.heap.size + 1, 2, none⟩ = some (.int .u64 (b : Int)) := ⟨HP.out.cell 0, HP.out.cell 1, HP.out.cell 2⟩
        obtain ⟨d0, d1, d2⟩ : wr.cell? ⟨w.heap.size, 0, none⟩ = some (.int .i64 0) ∧ wr.cell? ⟨w.heap.size, 1, none⟩ = some (.int .u64 0) ∧ wr.cell? ⟨w.heap.size, 2, none⟩ = some (.int .u64 0) := ⟨HZ.out.cell 0, HZ.out.cell 1, HZ.out.cell 2⟩
        have f0 := HZ.out.frozen 0
        have f1 := HZ.out.frozen 1
        have f2 := HZ.out.frozen 2
        have hlz := HZ.out.lt
        go_wp2_with fail
        refine ret_agg_tmp rfl w.heap.size 24 #[.int .i64 (k : Int), .int .u64 (a : Int), .int .u64 (b : Int)] _ rfl ((store3 HZ.out _ _ _).alloc _) rfl Tryd.underlying24 rfl (by kernel_rfl) ?_
        refine ⟨k, a, b, !more, rfl, below_more (below3 HB.out (Nat.le_refl _)) _, ?_⟩
        cases more with
        | false => exact .inl ⟨rfl, rfl, HEnd.out⟩
        | true => exact .inr ⟨rfl, fun a' b' e => by rw [HEnd.out] at e; cases e⟩
      · have hr13 : r = 1 ∨ r = 2 ∨ r = 3 := by omega
        have hrb : ((r : Int) == 0) = false := by rw [beq_eq_false_iff_ne]; omega
        obtain ⟨A, hA⟩ : ∃ A : ByteArray, A.data.toList = cutA R.data.toList := ⟨⟨(cutA R.data.toList).toArray⟩, by simp⟩
        obtain ⟨R2, hR2⟩ : ∃ R2 : ByteArray, R2.data.toList = cutR R.data.toList := ⟨⟨(cutR R.data.toList).toArray⟩, by simp⟩
        obtain ⟨M, hM⟩ : ∃ M, cutM R.data.toList = M := ⟨_, rfl⟩
        have HC := Lib.hid (cut_any R A R2 M hA hR2 hM HR.out)
        have hAs : A.size ≤ 9223372036854775807 := by
          rw [← size_list, hA]
          have h := (List.takeWhile_sublist (· != (47 : UInt8)) (l := R.data.toList)).length_le
          rw [size_list] at h
          exact Nat.le_trans h HR.out
        have hRs : R2.size ≤ 9223372036854775807 := by
          rw [← size_list, hR2]
          have h := (List.dropWhile_sublist (· != (47 : UInt8)) (l := R.data.toList)).length_le
          rw [size_list] at h
          have h2 := HR.out
          unfold cutR
          rw [List.length_drop]
          omega
        have HR2 := Lib.hid hRs
        obtain ⟨O, hO⟩ : ∃ O, decide (okEl (r, u) (cutA R.data.toList)) = O := ⟨_, rfl⟩
        obtain ⟨a2, ha2⟩ : ∃ a2, updA (r, u) (cutA R.data.toList) a = a2 := ⟨_, rfl⟩
        obtain ⟨b2, hb2⟩ : ∃ b2, updB (r, u) (cutA R.data.toList) b = b2 := ⟨_, rfl⟩
        have HL := Lib.hid (fun W hg => elp_any r u S A HRS.out hr13 hAs _ hA (w.heap.size + 1) (k : Int) a b W hg)
        rw [hO, ha2, hb2] at HL
        have HG3 := Lib.hid (show (if O = true then goEls ((els k).drop (j + 1)) R2.data.toList M a2 b2 else none) = goEls (els k) s.data.toList true 0 0 from by
          have h := HG2.out
          rw [goEls, if_neg (show ¬ (r, u).1 = 0 from hr0), ← hR2, hM, ha2, hb2] at h
          rw [← hO]
          simpa only [decide_eq_true_iff] using h)
        have HP2 := Lib.hid (HP.out.alloc (.cells #[.int .i64 (r : Int), .string S] 44))
        have HZ2 := Lib.hid (HZ.out.alloc (.cells #[.int .i64 (r : Int), .string S] 44))
        have HB2 := Lib.hid (below_more HB.out (.cells #[.int .i64 (r : Int), .string S] 44))
        clear hA hR2 hM hO ha2 hb2 hr13 hr0 hr3 hAs hRs
        go_wp2_with fail
        refine (HC.out _).mono ?_
        rintro e w2 ⟨rfl, m, rfl⟩
        go_wp2_with fail
        refine (HL.out _ (HP2.out.drewN m)).mono ?_
        rintro e w3 ⟨rfl, hp3, ho3⟩
        have HP3 := Lib.hid hp3
        have HZ3 := Lib.hid (ho3.blk (HZ2.out.drewN m) (by omega))
        have HB3 := Lib.hid (Only.below (below_drewN HB2.out m) (by have := HB2.out.size; simpa using this) (by omega) ho3)
        clear hp3 ho3
        cases O with
        | true =>
          go_wp2_with fail
          go_roundw
          case rel => exact ⟨j + 1, R2, M, a2, b2, by omega, by go_num, rfl, rfl, HR2, HZ3, HP3, HB3, Lib.hid (by have h := HG3.out; simpa using h)⟩
          case measure => simp [intOf]; omega
        | false =>
          have HEnd := Lib.hid (show goEls (els k) s.data.toList true 0 0 = none from by rw [← HG3.out]; rfl)
          obtain ⟨d0, d1, d2⟩ : w3.cell? ⟨w.heap.size, 0, none⟩ = some (.int .i64 0) ∧ w3.cell? ⟨w.heap.size, 1, none⟩ = some (.int .u64 0) ∧ w3.cell? ⟨w.heap.size, 2, none⟩ = some (.int .u64 0) := ⟨HZ3.out.cell 0, HZ3.out.cell 1, HZ3.out.cell 2⟩
          have f0 := HZ3.out.frozen 0
          have f1 := HZ3.out.frozen 1
          have f2 := HZ3.out.frozen 2
          have hlz := HZ3.out.lt
          go_wp2_with fail
          refine ret_agg_tmp rfl w.heap.size 24 #[.int .i64 0, .int .u64 0, .int .u64 0] _ rfl (store3 HZ3.out _ _ _) rfl Tryd.underlying24 rfl (by kernel_rfl) ?_
          exact ⟨0, 0, 0, false, rfl, below3 HB3.out (Nat.le_refl _), .inr ⟨rfl, fun a' b' e => by rw [HEnd.out] at e; cases e⟩⟩
    · have hlti : ¬ (j : Int) < 5 := by omega
      obtain rfl : j = 5 := by omega
      have HEnd := Lib.hid (show goEls (els k) s.data.toList true 0 0 = some (a, b, more) from by
        rw [← HG.out, List.drop_eq_nil_of_le (by rw [els_len]; omega)]; rfl)
      obtain ⟨c0, c1, c2⟩ : wr.cell? ⟨w.heap.size + 1, 0, none⟩ = some (.int .i64 (k : Int)) ∧ wr.cell? ⟨w.heap.size + 1, 1, none⟩ = some (.int .u64 (a : Int)) ∧ wr.cell? ⟨w.heap.size + 1, 2, none⟩ = some (.int .u64 (b : Int)) := ⟨HP.out.cell 0, HP.out.cell 1, HP.out.cell 2⟩
      obtain ⟨d0, d1, d2⟩ : wr.cell? ⟨w.heap.size, 0, none⟩ = some (.int .i64 0) ∧ wr.cell? ⟨w.heap.size, 1, none⟩ = some (.int .u64 0) ∧ wr.cell? ⟨w.heap.size, 2, none⟩ = some (.int .u64 0) := ⟨HZ.out.cell 0, HZ.out.cell 1, HZ.out.cell 2⟩
      have f0 := HZ.out.frozen 0
      have f1 := HZ.out.frozen 1
      have f2 := HZ.out.frozen 2
      have hlz := HZ.out.lt
      go_wp2_with fail
      refine ret_agg_tmp rfl w.heap.size 24 #[.int .i64 (k : Int), .int .u64 (a : Int), .int .u64 (b : Int)] _ rfl (store3 HZ.out _ _ _) rfl Tryd.underlying24 rfl (by kernel_rfl) ?_
      refine ⟨k, a, b, !more, rfl, below3 HB.out (Nat.le_refl _), ?_⟩
      cases more with
      | false => exact .inl ⟨rfl, rfl, HEnd.out⟩
      | true => exact .inr ⟨rfl, fun a' b' e => by rw [HEnd.out] at e; cases e⟩
end Go.Proofs.YtakfplkdjapooaaDoor.Sp
