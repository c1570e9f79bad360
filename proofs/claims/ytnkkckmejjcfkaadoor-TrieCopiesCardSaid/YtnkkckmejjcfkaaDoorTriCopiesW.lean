/- The walk of TrieCopies. -/
import Derived.Test.YtnkkckmejjcfkaaDoorTriDuo
namespace Go.Proofs.YtnkkckmejjcfkaaDoor.Sp
open Go Go.RowKit
set_option maxRecDepth 100000

set_option maxHeartbeats 8000000 in
theorem tri_copies {Tg : World → (Nat → Prop) → Nat → List Ent → Prop} (R : TriR Tg) (one two : List Act) (a a2 : Option Addr) (n c n2 c2 : Nat) (hok : ∀ x ∈ one, ActOk x) (hok2 : ∀ x ∈ two, ActOk x) (hn : n ≤ 9223372036854775807) (hn2 : n2 ≤ 9223372036854775807) (w : World) (hA : Acts w a n one) (hA2 : Acts w a2 n2 two) (hT : Tab w) (hQ : Tabs w) :
    Calls Tryd.prog 9 #[.slice a n c, .slice a2 n2 c2] w fun e w' => e = .returned (.bool true) ∧ Below w.heap.size w w' := by
  have HT := Lib.hid (And.intro hT hQ)
  have HR := Lib.hid R
  have HAw := Lib.hid (tawake_any R w hT)
  obtain ⟨L, Le⟩ : ∃ L, doesF [] one = L := ⟨_, rfl⟩
  obtain ⟨M, Me⟩ : ∃ M, doesF L two = M := ⟨_, rfl⟩
  obtain ⟨Rt, hRt⟩ : ∃ Rt, rootF L = Rt := ⟨_, rfl⟩
  obtain ⟨Ru, hRu⟩ : ∃ Ru, rootF M = Ru := ⟨_, rfl⟩
  obtain ⟨Ln, hLn⟩ : ∃ Ln, L.length = Ln := ⟨_, rfl⟩
  have q1 : (Rt.toList == Rt.toList) = true := beq_self_eq_true _
  have q2 : (Ru.toList == Ru.toList) = true := beq_self_eq_true _
  have HE := Lib.hid (And.intro hRt (And.intro hRu hLn))
  have HOk := Lib.hid (And.intro (And.intro hok hA) (And.intro hok2 hA2))
  have HL := Lib.hid (And.intro Le Me)
  clear hT hQ R hok hA hok2 hA2 hRt hRu hLn Le Me
  go_enter Tryd.func9, Tryd.ntmps9
  go_wp2_with fail
  refine HAw.out.mono ?_
  rintro e w1 ⟨rfl, h1⟩
  have B1 := Lib.hid h1
  clear h1
  go_wp2_with fail
  refine (HR.out.new w1).mono ?_
  rintro e w2 ⟨g, F2, rfl, t2, bf2, b2⟩
  have S2 := Lib.hid (show One Tg w w2 F2 g [] from ⟨t2, B1.out.trans (b2.mono B1.out.size), fun k hk => Nat.le_trans B1.out.size (bf2 k hk)⟩)
  clear t2 bf2 b2
  go_wp2_with fail
  have Le := HL.out.1
  refine (qtnew_any w2).mono ?_
  rintro e w3 ⟨hh3, G3, rfl, t3, bf3, b3⟩
  have D3 := Lib.hid (Two.fresh HR.out S2.out t3 bf3 b3)
  clear t3 bf3 b3
  go_wp2_with fail
  refine (does_any HR.out w w3 F2 G3 g hh3 [] [] one a n c D3.out (by decide) HOk.out.1.1 HOk.out.1.2 hn HT.out.1 HT.out.2).mono ?_
  rintro e w4 ⟨F4, G4, rfl, s4, u4, n4, m4⟩
  have S4 := Lib.hid s4.one
  clear s4 u4 n4 m4
  rw [show doesF [] one = L from Le] at S4
  go_wp2_with fail
  clear Le
  refine (HR.out.root w4 F4 g L  S4.out.t  (S4.out.tab HT.out.1)).mono ?_
  rintro e w5 ⟨F5, rfl, t5, u5, n5⟩
  rw [HE.out.1]
  have S5 := Lib.hid (S4.out.turn t5 u5 n5)
  clear t5 u5 n5
  go_wp2_with fail
  refine (HR.out.copy w5 F5 g L S5.out.t).mono ?_
  rintro e w6 ⟨F6, G6, h, rfl, t6, c6, b6, u6, n6⟩
  have D6 := Lib.hid (S5.out.copied t6 c6 b6 u6 n6)
  clear t6 c6 b6 u6 n6
  go_wp2_with fail
  refine (HR.out.root w6 G6 h L  D6.out.c.t  (D6.out.s.tab HT.out.1)).mono ?_
  rintro e w7 ⟨G7, rfl, t7, u7, n7⟩
  rw [HE.out.1]
  have D7 := Lib.hid (D6.out.second HR.out t7 u7 n7)
  clear t7 u7 n7
  go_wp2_with fail
  refine (HR.out.len w7 G7 h L  D7.out.c.t ).mono ?_
  rintro e w8 ⟨G8, rfl, t8, u8, n8⟩
  rw [HE.out.2.2]
  have D8 := Lib.hid (D7.out.second HR.out t8 u8 n8)
  clear t8 u8 n8
  go_wp2_with fail
  refine (HR.out.len w8 F6 g L  D8.out.s.t ).mono ?_
  rintro e w9 ⟨F9, rfl, t9, u9, n9⟩
  rw [HE.out.2.2]
  have D9 := Lib.hid (D8.out.first HR.out t9 u9 n9)
  clear t9 u9 n9
  go_wp2_with fail
  have Me := HL.out.2
  refine (qtnew_any w9).mono ?_
  rintro e w10 ⟨z10, H10, rfl, t10, bf10, b10⟩
  have T10 := Lib.hid (Two.fresh HR.out D9.out.flip.s t10 bf10 b10)
  have Z10 := Lib.hid (And.intro b10 bf10)
  clear t10 bf10 b10
  go_wp2_with fail
  refine (does_any HR.out w w10 G8 H10 h z10 L [] two a2 n2 c2 T10.out ⟨by have := does_small HL.out.1; omega, by decide⟩ HOk.out.2.1 HOk.out.2.2 hn2 HT.out.1 HT.out.2).mono ?_
  rintro e w11 ⟨F11, H11, rfl, s11, u11, n11, m11⟩
  have D11 := Lib.hid ((D9.out.flip.does HR.out Z10.out.1 Z10.out.2 T10.out s11 u11 n11).flip)
  clear s11 u11 n11 m11 T10 Z10
  rw [show doesF L two = M from Me] at D11
  go_wp2_with fail
  refine (HR.out.root w11 F9 g L  D11.out.s.t  (D11.out.s.tab HT.out.1)).mono ?_
  rintro e w12 ⟨F12, rfl, t12, u12, n12⟩
  rw [HE.out.1]
  have D12 := Lib.hid (D11.out.first HR.out t12 u12 n12)
  clear t12 u12 n12
  go_wp2_with fail
  refine (HR.out.root w12 F11 h M  D12.out.c.t  (D12.out.s.tab HT.out.1)).mono ?_
  rintro e w13 ⟨G13, rfl, t13, u13, n13⟩
  rw [HE.out.2.1]
  have D13 := Lib.hid (D12.out.second HR.out t13 u13 n13)
  clear t13 u13 n13
  go_wp2_with fail
  refine (qtnew_any w13).mono ?_
  rintro e w14 ⟨z14, H14, rfl, t14, bf14, b14⟩
  have T14 := Lib.hid (Two.fresh HR.out D13.out.s t14 bf14 b14)
  have Z14 := Lib.hid (And.intro b14 bf14)
  clear t14 bf14 b14
  go_wp2_with fail
  refine (does_any HR.out w w14 F12 H14 g z14 L [] two a2 n2 c2 T14.out ⟨by have := does_small HL.out.1; omega, by decide⟩ HOk.out.2.1 HOk.out.2.2 hn2 HT.out.1 HT.out.2).mono ?_
  rintro e w15 ⟨F15, H15, rfl, s15, u15, n15, m15⟩
  have D15 := Lib.hid ((D13.out.does HR.out Z14.out.1 Z14.out.2 T14.out s15 u15 n15))
  clear s15 u15 n15 m15 T14 Z14
  rw [show doesF L two = M from Me] at D15
  go_wp2_with fail
  refine (HR.out.root w15 F15 g M  D15.out.s.t  (D15.out.s.tab HT.out.1)).mono ?_
  rintro e w16 ⟨F16, rfl, t16, u16, n16⟩
  rw [HE.out.2.1]
  have D16 := Lib.hid (D15.out.first HR.out t16 u16 n16)
  clear t16 u16 n16
  go_wp2_with fail
  refine (HR.out.root w16 G13 h M  D16.out.c.t  (D16.out.s.tab HT.out.1)).mono ?_
  rintro e w17 ⟨G17, rfl, t17, u17, n17⟩
  rw [HE.out.2.1]
  have D17 := Lib.hid (D16.out.second HR.out t17 u17 n17)
  clear t17 u17 n17
  go_wp2_with fail
  go_ret
  exact ⟨rfl, D17.out.s.below⟩
end Go.Proofs.YtnkkckmejjcfkaaDoor.Sp
