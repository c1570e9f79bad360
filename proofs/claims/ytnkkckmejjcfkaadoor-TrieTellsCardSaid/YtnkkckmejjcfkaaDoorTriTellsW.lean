/- The walk of TrieTells. -/
import Derived.Test.YtnkkckmejjcfkaaDoorGdI
import Derived.Test.YtnkkckmejjcfkaaDoorGdM
namespace Go.Proofs.YtnkkckmejjcfkaaDoor.Sp
open Go Go.RowKit
set_option maxRecDepth 100000

set_option maxHeartbeats 4000000 in
theorem tri_tells {Tg : World → (Nat → Prop) → Nat → List Ent → Prop} (R : TriR Tg) (a b : ByteArray) (ha : a.size ≤ 140737488351232) (hb : b.size ≤ 140737488351232) (w : World) (hT : Tab w) (hQ : Tabs w) :
    Calls Tryd.prog 3 #[.string a, .string b] w fun e w' => e = .returned (.bool true) ∧ Below w.heap.size w w' := by
  have HT := Lib.hid (And.intro hT hQ)
  have HR := Lib.hid R
  have HT2 := Lib.hid (fun (w' : World) (h : Below w.heap.size w w') => (And.intro (hT.below h hT.lt) (hQ.below h) : Tab w' ∧ Tabs w'))
  have HA := Lib.hid (tawake_any R w hT)
  have H1 := Lib.hid (fun w ht => R.path a w ha ht)
  have H2 := Lib.hid (fun w ht => qkey_any a w ha ht)
  have H3 := Lib.hid (fun w ht => R.nothing w ht)
  have H4 := Lib.hid (fun w ht => qnothing_any w ht)
  have H5 := Lib.hid (fun w ht => R.leaf a b w (by omega) ht)
  have H6 := Lib.hid (fun w ht => qleaf_any a b w (by omega) ht)
  have H7 := Lib.hid (fun w ht => R.inner a b w (by omega) ht)
  have H8 := Lib.hid (fun w ht => qinner_any a b w (by omega) ht)
  obtain ⟨P, hP⟩ : ∃ P, keyP a = P := ⟨_, rfl⟩
  obtain ⟨N, hN⟩ : ∃ N, nothingB = N := ⟨_, rfl⟩
  obtain ⟨L, hL⟩ : ∃ L, leafB a b = L := ⟨_, rfl⟩
  obtain ⟨I, hI⟩ : ∃ I, innerB a b = I := ⟨_, rfl⟩
  rw [hP] at H1 H2
  rw [hN] at H3 H4
  rw [hL] at H5 H6
  rw [hI] at H7 H8
  have q1 : (P.toList == P.toList) = true := beq_self_eq_true _
  have q2 : (N.toList == N.toList) = true := beq_self_eq_true _
  have q3 : (L.toList == L.toList) = true := beq_self_eq_true _
  have q4 : (I.toList == I.toList) = true := beq_self_eq_true _
  clear hT hQ R hP hN hL hI
  go_enter Tryd.func3, Tryd.ntmps3
  go_wp2_with fail
  refine HA.out.mono ?_
  rintro e w1 ⟨rfl, h1⟩
  have B1 := Lib.hid h1
  clear h1
  go_wp2_with fail
  refine (H1.out w1 (HT2.out w1 B1.out).1).mono ?_
  rintro e w2 ⟨rfl, h2⟩
  have B2 := Lib.hid (B1.out.trans (h2.mono B1.out.size))
  clear h2
  go_wp2_with fail
  refine (H2.out w2 (HT2.out w2 B2.out).2).mono ?_
  rintro e w3 ⟨rfl, h3⟩
  have B3 := Lib.hid (B2.out.trans (h3.mono B2.out.size))
  clear h3
  go_wp2_with fail
  refine (H3.out w3 (HT2.out w3 B3.out).1).mono ?_
  rintro e w4 ⟨rfl, h4⟩
  have B4 := Lib.hid (B3.out.trans (h4.mono B3.out.size))
  clear h4
  go_wp2_with fail
  refine (H4.out w4 (HT2.out w4 B4.out).2).mono ?_
  rintro e w5 ⟨rfl, h5⟩
  have B5 := Lib.hid (B4.out.trans (h5.mono B4.out.size))
  clear h5
  go_wp2_with fail
  refine (H5.out w5 (HT2.out w5 B5.out).1).mono ?_
  rintro e w6 ⟨rfl, h6⟩
  have B6 := Lib.hid (B5.out.trans (h6.mono B5.out.size))
  clear h6
  go_wp2_with fail
  refine (H6.out w6 (HT2.out w6 B6.out).2).mono ?_
  rintro e w7 ⟨rfl, h7⟩
  have B7 := Lib.hid (B6.out.trans (h7.mono B6.out.size))
  clear h7
  go_wp2_with fail
  refine (H7.out w7 (HT2.out w7 B7.out).1).mono ?_
  rintro e w8 ⟨rfl, h8⟩
  have B8 := Lib.hid (B7.out.trans (h8.mono B7.out.size))
  clear h8
  go_wp2_with fail
  refine (H8.out w8 (HT2.out w8 B8.out).2).mono ?_
  rintro e w9 ⟨rfl, h9⟩
  have B9 := Lib.hid (B8.out.trans (h9.mono B8.out.size))
  clear h9
  go_wp2_with fail
  go_ret
  exact ⟨rfl, B9.out⟩
end Go.Proofs.YtnkkckmejjcfkaaDoor.Sp
