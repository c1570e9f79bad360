/- The walk of TrieApart. -/
import Derived.Test.YtnkkckmejjcfkaaDoorTriClash
import Derived.Deep.RegionHeld3
namespace Go.Proofs.YtnkkckmejjcfkaaDoor.Sp
open Go Go.RowKit
set_option maxRecDepth 100000

theorem below_da {w0 w w' : World} {o : Obj} (B : Below w0.heap.size w0 w) (h : Below (w.drew.alloc o).heap.size (w.drew.alloc o) w') : Below w0.heap.size w0 w' :=
  have B1 : Below w0.heap.size w0 (w.drew.alloc o) := (B.drew).alloc (show w0.heap.size ≤ w.drew.heap.size from B.size) o
  B1.trans (h.mono B1.size)
theorem below_a {w0 w w' : World} {o : Obj} (B : Below w0.heap.size w0 w) (h : Below (w.alloc o).heap.size (w.alloc o) w') : Below w0.heap.size w0 w' :=
  have B1 : Below w0.heap.size w0 (w.alloc o) := B.alloc B.size o
  B1.trans (h.mono B1.size)
theorem apart_cases (V U : Option ByteArray) (one two : ByteArray) (h : V ≠ U → keyP one = keyP two) : one = two ∨ ((one.toList == two.toList) = false ∧ V = U) ∨ ((one.toList == two.toList) = false ∧ ((V.getD .empty).toList == (U.getD .empty).toList) = false ∧ one ≠ two ∧ keyP one = keyP two) ∨ ((one.toList == two.toList) = false ∧ ((V.getD .empty).toList == (U.getD .empty).toList) = true ∧ ((V.isSome = true ∧ U.isSome = false) ∨ (V.isSome = false ∧ U.isSome = true)) ∧ one ≠ two ∧ keyP one = keyP two) := by
  by_cases h1 : one = two
  · exact .inl h1
  by_cases h2 : V = U
  · exact .inr (.inl ⟨text_ne _ _ h1, h2⟩)
  by_cases h3 : V.getD .empty = U.getD .empty
  · refine .inr (.inr (.inr ⟨text_ne _ _ h1, text_eq _ _ h3, ?_, h1, h h2⟩))
    cases V with
    | none => cases U with
      | none => exact absurd rfl h2
      | some u => exact .inr ⟨rfl, rfl⟩
    | some v => cases U with
      | none => exact .inl ⟨rfl, rfl⟩
      | some u => exact absurd (congrArg some h3) h2
  · exact .inr (.inr (.inl ⟨text_ne _ _ h1, text_ne _ _ h3, h1, h h2⟩))

set_option maxHeartbeats 8000000 in
theorem tri_apart {Tg : World → (Nat → Prop) → Nat → List Ent → Prop} (R : TriR Tg) (acts : List Act) (a : Option Addr) (n c : Nat) (one two value : ByteArray) (gone : Bool) (hok : ∀ x ∈ acts, ActOk x) (hn : n ≤ 9223372036854775807) (h1 : one.size ≤ 140737488351232) (h2 : two.size ≤ 140737488351232) (hv : value.size ≤ 140737488351232) (w : World) (hA : Acts w a n acts) (hT : Tab w) (hQ : Tabs w) :
    Calls Tryd.prog 6 #[.slice a n c, .string one, .string two, .string value, .bool gone] w fun e w' => e = .returned (.bool true) ∧ Below w.heap.size w w' := by
  have HT := Lib.hid (And.intro hT hQ)
  have HR := Lib.hid R
  have HAw := Lib.hid (tawake_any R w hT)
  obtain ⟨L, Le⟩ : ∃ L, doesF [] acts = L := ⟨_, rfl⟩
  have HFit := Lib.hid (show FitT L from by rw [← Le]; exact does_fit _ fitT_nil)
  have HOk := Lib.hid (And.intro hok (And.intro hA Le))
  have hk32 : (keyP one).size = 32 := keyP_32 _
  obtain ⟨V, hV⟩ : ∃ V, getF L (keyP two) = V := ⟨_, rfl⟩
  have HV := Lib.hid hV
  have HS := Lib.hid (And.intro h1 (And.intro h2 hv))
  have HI1 := Lib.hid (fun g c w hs => qin_one 6 (by omega) one g c w hs h1)
  have HI2 := Lib.hid (fun g c w hs => qin_one 6 (by omega) two g c w hs h2)
  obtain ⟨I1, hI1⟩ : ∃ I1, inT (UInt8.ofNat 6) [one] = I1 := ⟨_, rfl⟩
  obtain ⟨I2, hI2⟩ : ∃ I2, inT (UInt8.ofNat 6) [two] = I2 := ⟨_, rfl⟩
  have HCl := Lib.hid (fun (hne : one ≠ two) (hk : keyP one = keyP two) (a : Option Addr) (cap : Nat) (w : World) (hs : Strs w a 2 [I1, I2]) (ht : Tab w) => tclash_any [I1, I2] a 2 cap (by omega) (by
    intro x hx
    rcases List.mem_cons.1 hx with rfl | hx
    · rw [← hI1]; exact inT_one_size _ _ h1
    · obtain rfl := List.mem_singleton.1 hx
      rw [← hI2]; exact inT_one_size _ _ h2) (keys_clash hne hk (by rw [← hI1]; exact List.mem_cons_self) (by rw [← hI2]; exact List.mem_cons_of_mem _ List.mem_cons_self)) w hs ht)
  rw [hI1] at HI1
  rw [hI2] at HI2
  have q5 : (value.toList == value.toList) = true := beq_self_eq_true _
  clear hT hQ R hok hA Le hV h1 h2 hv hI1 hI2
  go_enter Tryd.func6, Tryd.ntmps6
  go_wp2_with fail
  refine HAw.out.mono ?_
  rintro e w1 ⟨rfl, h1⟩
  have B1 := Lib.hid h1
  clear h1
  go_wp2_with fail
  refine (HR.out.new w1).mono ?_
  rintro e w2 ⟨g, F2, rfl, t2, bf2, b2⟩
  have S2 := Lib.hid (show One Tg w w2 F2 g [] from ⟨t2, B1.out.trans (b2.mono B1.out.size), fun k hk => Nat.le_trans B1.out.size (bf2 k hk)⟩)
  clear t2 bf2 b2
  go_wp2_with fail
  have Le := HOk.out.2.2
  refine (qtnew_any w2).mono ?_
  rintro e w3 ⟨hh3, G3, rfl, t3, bf3, b3⟩
  have D3 := Lib.hid (Two.fresh HR.out S2.out t3 bf3 b3)
  clear t3 bf3 b3
  go_wp2_with fail
  refine (does_any HR.out w w3 F2 G3 g hh3 [] [] acts a n c D3.out (by decide) HOk.out.1 HOk.out.2.1 hn HT.out.1 HT.out.2).mono ?_
  rintro e w4 ⟨F4, G4, rfl, s4, u4, n4, m4⟩
  have S4 := Lib.hid s4.one
  clear s4 u4 n4 m4
  rw [show doesF [] acts = L from Le] at S4
  go_wp2_with fail
  clear Le
  refine (HR.out.get w4 F4 g L two S4.out.t HS.out.2.1 (S4.out.tab HT.out.1)).mono ?_
  rintro e w5 ⟨F5, rfl, t5, u5, n5⟩
  rw [HV.out]
  have S5 := Lib.hid (S4.out.turn t5 u5 n5)
  clear t5 u5 n5
  cases gone with
  | true =>
    have hap : V ≠ getF (delF L (keyP one)) (keyP two) → keyP one = keyP two := fun hne => by
      rw [← HV.out, get_del HFit.out] at hne
      by_cases e : keyP two = keyP one
      · exact e.symm
      · rw [if_neg e] at hne; exact absurd rfl hne
    have hg1 : getF (delF L (keyP one)) (keyP one) = none := by rw [get_del HFit.out, if_pos rfl]
    obtain ⟨M, hM⟩ : ∃ M, delF L (keyP one) = M := ⟨_, rfl⟩
    rw [hM] at hap hg1
    obtain ⟨U, hU⟩ : ∃ U, getF M (keyP two) = U := ⟨_, rfl⟩
    rw [hU] at hap
    have HU := Lib.hid (And.intro hM (And.intro hU hg1))
    have HAp := Lib.hid hap
    clear hM hU hap hg1
    go_wp2_with fail
    refine (HR.out.delete w5 F5 g L one S5.out.t HS.out.1 (S5.out.tab HT.out.1)).mono ?_
    rintro e w6 ⟨F6, rfl, t6, u6, n6⟩
    rw [HU.out.1] at t6
    have S6 := Lib.hid (S5.out.turn t6 u6 n6)
    clear t6 u6 n6
    go_wp2_with fail
    refine (HR.out.get w6 F6 g M two S6.out.t HS.out.2.1 (S6.out.tab HT.out.1)).mono ?_
    rintro e w7 ⟨F7, rfl, t7, u7, n7⟩
    rw [HU.out.2.1]
    have S7 := Lib.hid (S6.out.turn t7 u7 n7)
    clear t7 u7 n7
    go_wp2_with fail
    refine (HR.out.get w7 F7 g M one S7.out.t HS.out.1 (S7.out.tab HT.out.1)).mono ?_
    rintro e w8 ⟨F8, rfl, t8, u8, n8⟩
    rw [HU.out.2.2]
    have S8 := Lib.hid (S7.out.turn t8 u8 n8)
    clear t8 u8 n8
    simp only [Option.getD_none, Option.isSome_none]
    rcases apart_cases V U one two HAp.out with h | ⟨h, e⟩ | ⟨h, e, hne, hk⟩ | ⟨h, e, hb, hne, hk⟩
    · have h := text_eq _ _ h
      go_wp2_with fail
      go_ret
      exact ⟨rfl, S8.out.below⟩
    · subst e
      obtain ⟨x, hx⟩ : ∃ x, V.getD .empty = x := ⟨_, rfl⟩
      obtain ⟨b, hb⟩ : ∃ b, V.isSome = b := ⟨_, rfl⟩
      rw [hx, hb]
      clear hx hb
      have hxx := text_self x
      cases b
      all_goals
        go_wp2_with fail
        go_ret
        exact ⟨rfl, S8.out.below⟩
    · have hne := Lib.hid (And.intro hne hk)
      clear hk
      obtain ⟨x, hx⟩ : ∃ x, V.getD .empty = x := ⟨_, rfl⟩
      obtain ⟨y, hy⟩ : ∃ y, U.getD .empty = y := ⟨_, rfl⟩
      obtain ⟨b, hb⟩ : ∃ b, V.isSome = b := ⟨_, rfl⟩
      obtain ⟨d, hd⟩ : ∃ d, U.isSome = d := ⟨_, rfl⟩
      rw [hx, hy] at e
      rw [hx, hy, hb, hd]
      clear hx hy hb hd
      go_wp2_with fail
      have H7 := Lib.hid (fun a cap w hs ht => HCl.out hne.out.1 hne.out.2 a cap w hs ht)
      refine (HI1.out _ _ _ (by exact strs_blk (Blk.new _ 9 _) rfl)).mono ?_
      rintro e v1 ⟨rfl, h1⟩
      have C1 := Lib.hid (show Below w.heap.size w v1 from (by first | exact below_da S8.out.below h1 | exact below_a S8.out.below h1))
      clear h1
      go_wp2_with fail
      refine (HI2.out _ _ _ (by exact strs_blk (Blk.new _ 9 _) rfl)).mono ?_
      rintro e v2 ⟨rfl, h2⟩
      have C2 := Lib.hid (show Below w.heap.size w v2 from (by first | exact below_a C1.out h2 | exact below_da C1.out h2))
      clear h2
      go_wp2_with fail
      refine (H7.out _ _ _ (by exact strs_blk (ss := [I1, I2]) (Blk.new _ 9 #[.string I1, .string I2]) rfl) (HT.out.1.below (by exact C2.out.alloc C2.out.size _) HT.out.1.lt)).mono ?_
      rintro e v3 ⟨rfl, h3⟩
      have C3 := Lib.hid (show Below w.heap.size w v3 from (by first | exact below_a C2.out h3 | exact below_da C2.out h3))
      clear h3
      go_wp2_with fail
      go_ret
      exact ⟨rfl, C3.out⟩
    · have hne := Lib.hid (And.intro hne hk)
      clear hk
      obtain ⟨x, hx⟩ : ∃ x, V.getD .empty = x := ⟨_, rfl⟩
      obtain ⟨y, hy⟩ : ∃ y, U.getD .empty = y := ⟨_, rfl⟩
      rw [hx, hy] at e
      rw [hx, hy]
      clear hx hy
      rcases hb with ⟨hb, hd⟩ | ⟨hb, hd⟩
      all_goals
        rw [hb, hd]
        clear hb hd
        go_wp2_with fail
        have H7 := Lib.hid (fun a cap w hs ht => HCl.out hne.out.1 hne.out.2 a cap w hs ht)
        refine (HI1.out _ _ _ (by exact strs_blk (Blk.new _ 9 _) rfl)).mono ?_
        rintro e v1 ⟨rfl, h1⟩
        have C1 := Lib.hid (show Below w.heap.size w v1 from (by first | exact below_da S8.out.below h1 | exact below_a S8.out.below h1))
        clear h1
        go_wp2_with fail
        refine (HI2.out _ _ _ (by exact strs_blk (Blk.new _ 9 _) rfl)).mono ?_
        rintro e v2 ⟨rfl, h2⟩
        have C2 := Lib.hid (show Below w.heap.size w v2 from (by first | exact below_a C1.out h2 | exact below_da C1.out h2))
        clear h2
        go_wp2_with fail
        refine (H7.out _ _ _ (by exact strs_blk (ss := [I1, I2]) (Blk.new _ 9 #[.string I1, .string I2]) rfl) (HT.out.1.below (by exact C2.out.alloc C2.out.size _) HT.out.1.lt)).mono ?_
        rintro e v3 ⟨rfl, h3⟩
        have C3 := Lib.hid (show Below w.heap.size w v3 from (by first | exact below_a C2.out h3 | exact below_da C2.out h3))
        clear h3
        go_wp2_with fail
        go_ret
        exact ⟨rfl, C3.out⟩
  | false =>
    have hap : V ≠ getF (setF L (keyP one) value) (keyP two) → keyP one = keyP two := fun hne => by
      rw [← HV.out, get_set HFit.out _ _ _ hk32] at hne
      by_cases e : keyP two = keyP one
      · exact e.symm
      · rw [if_neg e] at hne; exact absurd rfl hne
    have hg1 : getF (setF L (keyP one) value) (keyP one) = some value := by rw [get_set HFit.out _ _ _ hk32, if_pos rfl]
    obtain ⟨M, hM⟩ : ∃ M, setF L (keyP one) value = M := ⟨_, rfl⟩
    rw [hM] at hap hg1
    obtain ⟨U, hU⟩ : ∃ U, getF M (keyP two) = U := ⟨_, rfl⟩
    rw [hU] at hap
    have HU := Lib.hid (And.intro hM (And.intro hU hg1))
    have HAp := Lib.hid hap
    clear hM hU hap hg1
    go_wp2_with fail
    refine (HR.out.set w5 F5 g L one value S5.out.t HS.out.1 HS.out.2.2 (by have := does_small HOk.out.2.2; omega) (S5.out.tab HT.out.1)).mono ?_
    rintro e w6 ⟨F6, rfl, t6, u6, n6⟩
    rw [HU.out.1] at t6
    have S6 := Lib.hid (S5.out.turn t6 u6 n6)
    clear t6 u6 n6
    go_wp2_with fail
    refine (HR.out.get w6 F6 g M two S6.out.t HS.out.2.1 (S6.out.tab HT.out.1)).mono ?_
    rintro e w7 ⟨F7, rfl, t7, u7, n7⟩
    rw [HU.out.2.1]
    have S7 := Lib.hid (S6.out.turn t7 u7 n7)
    clear t7 u7 n7
    go_wp2_with fail
    refine (HR.out.get w7 F7 g M one S7.out.t HS.out.1 (S7.out.tab HT.out.1)).mono ?_
    rintro e w8 ⟨F8, rfl, t8, u8, n8⟩
    rw [HU.out.2.2]
    have S8 := Lib.hid (S7.out.turn t8 u8 n8)
    clear t8 u8 n8
    simp only [Option.getD_some, Option.isSome_some]
    rcases apart_cases V U one two HAp.out with h | ⟨h, e⟩ | ⟨h, e, hne, hk⟩ | ⟨h, e, hb, hne, hk⟩
    · have h := text_eq _ _ h
      go_wp2_with fail
      go_ret
      exact ⟨rfl, S8.out.below⟩
    · subst e
      obtain ⟨x, hx⟩ : ∃ x, V.getD .empty = x := ⟨_, rfl⟩
      obtain ⟨b, hb⟩ : ∃ b, V.isSome = b := ⟨_, rfl⟩
      rw [hx, hb]
      clear hx hb
      have hxx := text_self x
      cases b
      all_goals
        go_wp2_with fail
        go_ret
        exact ⟨rfl, S8.out.below⟩
    · have hne := Lib.hid (And.intro hne hk)
      clear hk
      obtain ⟨x, hx⟩ : ∃ x, V.getD .empty = x := ⟨_, rfl⟩
      obtain ⟨y, hy⟩ : ∃ y, U.getD .empty = y := ⟨_, rfl⟩
      obtain ⟨b, hb⟩ : ∃ b, V.isSome = b := ⟨_, rfl⟩
      obtain ⟨d, hd⟩ : ∃ d, U.isSome = d := ⟨_, rfl⟩
      rw [hx, hy] at e
      rw [hx, hy, hb, hd]
      clear hx hy hb hd
      go_wp2_with fail
      have H7 := Lib.hid (fun a cap w hs ht => HCl.out hne.out.1 hne.out.2 a cap w hs ht)
      refine (HI1.out _ _ _ (by exact strs_blk (Blk.new _ 9 _) rfl)).mono ?_
      rintro e v1 ⟨rfl, h1⟩
      have C1 := Lib.hid (show Below w.heap.size w v1 from (by first | exact below_da S8.out.below h1 | exact below_a S8.out.below h1))
      clear h1
      go_wp2_with fail
      refine (HI2.out _ _ _ (by exact strs_blk (Blk.new _ 9 _) rfl)).mono ?_
      rintro e v2 ⟨rfl, h2⟩
      have C2 := Lib.hid (show Below w.heap.size w v2 from (by first | exact below_a C1.out h2 | exact below_da C1.out h2))
      clear h2
      go_wp2_with fail
      refine (H7.out _ _ _ (by exact strs_blk (ss := [I1, I2]) (Blk.new _ 9 #[.string I1, .string I2]) rfl) (HT.out.1.below (by exact C2.out.alloc C2.out.size _) HT.out.1.lt)).mono ?_
      rintro e v3 ⟨rfl, h3⟩
      have C3 := Lib.hid (show Below w.heap.size w v3 from (by first | exact below_a C2.out h3 | exact below_da C2.out h3))
      clear h3
      go_wp2_with fail
      go_ret
      exact ⟨rfl, C3.out⟩
    · have hne := Lib.hid (And.intro hne hk)
      clear hk
      obtain ⟨x, hx⟩ : ∃ x, V.getD .empty = x := ⟨_, rfl⟩
      obtain ⟨y, hy⟩ : ∃ y, U.getD .empty = y := ⟨_, rfl⟩
      rw [hx, hy] at e
      rw [hx, hy]
      clear hx hy
      rcases hb with ⟨hb, hd⟩ | ⟨hb, hd⟩
      all_goals
        rw [hb, hd]
        clear hb hd
        go_wp2_with fail
        have H7 := Lib.hid (fun a cap w hs ht => HCl.out hne.out.1 hne.out.2 a cap w hs ht)
        refine (HI1.out _ _ _ (by exact strs_blk (Blk.new _ 9 _) rfl)).mono ?_
        rintro e v1 ⟨rfl, h1⟩
        have C1 := Lib.hid (show Below w.heap.size w v1 from (by first | exact below_da S8.out.below h1 | exact below_a S8.out.below h1))
        clear h1
        go_wp2_with fail
        refine (HI2.out _ _ _ (by exact strs_blk (Blk.new _ 9 _) rfl)).mono ?_
        rintro e v2 ⟨rfl, h2⟩
        have C2 := Lib.hid (show Below w.heap.size w v2 from (by first | exact below_a C1.out h2 | exact below_da C1.out h2))
        clear h2
        go_wp2_with fail
        refine (H7.out _ _ _ (by exact strs_blk (ss := [I1, I2]) (Blk.new _ 9 #[.string I1, .string I2]) rfl) (HT.out.1.below (by exact C2.out.alloc C2.out.size _) HT.out.1.lt)).mono ?_
        rintro e v3 ⟨rfl, h3⟩
        have C3 := Lib.hid (show Below w.heap.size w v3 from (by first | exact below_a C2.out h3 | exact below_da C2.out h3))
        clear h3
        go_wp2_with fail
        go_ret
        exact ⟨rfl, C3.out⟩
end Go.Proofs.YtnkkckmejjcfkaaDoor.Sp
