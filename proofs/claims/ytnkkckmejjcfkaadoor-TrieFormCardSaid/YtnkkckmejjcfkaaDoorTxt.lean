/- Texts and Clash of the statements of package tree, where package tree itself is not reached. -/
import Derived.Test.YtnkkckmejjcfkaaDoorTrePure
import Derived.Test.YtnkkckmejjcfkaaDoorGdS
import Derived.Test.YtnkkckmejjcfkaaDoorGdR
import Derived.BigQuiet
import Derived.Deep.RegionLaw
import Derived.Deep.Cut
namespace Go.Proofs.YtnkkckmejjcfkaaDoor.Sp
open Go Go.RowKit
set_option maxRecDepth 100000

theorem text_self (x : ByteArray) : (x.toList == x.toList) = true := by simp
theorem text_ne (x y : ByteArray) (h : x ≠ y) : (x.toList == y.toList) = false := by
  cases e : (x.toList == y.toList) with
  | false => rfl
  | true =>
    exfalso
    apply h
    have e2 := eq_of_beq e
    rw [Lib.toList_data, Lib.toList_data] at e2
    have h6 := Array.toList_inj.1 e2
    cases x; cases y; simp only at h6; rw [h6]
theorem texts_ext (A B : List ByteArray) (n : Nat) (hA : A.length = n) (hB : B.length = n) (h : ∀ j, j < n → A.getD j ByteArray.empty = B.getD j ByteArray.empty) : A = B := by
  apply List.ext_getElem (by omega)
  intro j h1 h2
  have q : ∀ (l : List ByteArray) (hj : j < l.length), l[j] = l.getD j ByteArray.empty := by
    intro l hj; rw [List.getD_eq_getElem?_getD, List.getElem?_eq_getElem hj]; rfl
  rw [q A h1, q B h2]
  exact h j (by omega)
theorem Strs.at_ {w wr : World} {a : Option Addr} {n k : Nat} {ss : List ByteArray} (h : Strs w a n ss) (hb : Below w.heap.size w wr) (hk : k < n) :
    ∃ b off, a = some ⟨b, off, none⟩ ∧ wr.cell? ⟨b, off + k, none⟩ = some (.string (ss.getD k ByteArray.empty)) := by
  obtain ⟨b, off, rfl, hc⟩ := (h.below hb).2 (by omega)
  exact ⟨b, off, rfl, hc k hk⟩

theorem getD_eq_get (l : List ByteArray) (k : Nat) (h : k < l.length) : l.getD k ByteArray.empty = l[k] := by
  rw [List.getD_eq_getElem?_getD, List.getElem?_eq_getElem h]; rfl
theorem clash_of (l : List ByteArray) (h : ∀ i k, i < l.length → k < i → sumT (l.getD i .empty) = sumT (l.getD k .empty) → l.getD i .empty = l.getD k .empty) : ¬ ClashIn l := by
  rintro ⟨u, v, hu, hv, hne, hs⟩
  obtain ⟨i, hi, rfl⟩ := List.getElem_of_mem hu
  obtain ⟨k, hk, rfl⟩ := List.getElem_of_mem hv
  rw [← getD_eq_get l i hi, ← getD_eq_get l k hk] at hne hs
  rcases Nat.lt_trichotomy i k with h1 | h1 | h1
  · exact hne (h k i hk h1 hs.symm).symm
  · subst h1; exact hne rfl
  · exact hne (h i k hi h1 hs)

set_option maxHeartbeats 4000000 in
theorem clash_any (T : World → Prop) (hTd : ∀ w n, T w → T (w.drewN n)) (hTb : ∀ w w', T w → Below w.heap.size w w' → T w')
    (hsum : ∀ (b : ByteArray) (w : World), b.size ≤ 9223372036854775000 → T w → Calls Tryd.prog 50 #[.string b] w fun e w' => e = .returned (.string (sumT b)) ∧ Below w.heap.size w w')
    (l : List ByteArray) (a : Option Addr) (n cap : Nat) (hn : n ≤ 4294967296) (hM : ∀ x ∈ l, x.size ≤ 9223372036854775000) (S : Bool) (hS : S = true ↔ ClashIn l) (w : World) (hl : Strs w a n l) (hT : T w) :
    Calls Tryd.prog 33 #[.slice a n cap] w fun e w' => e = .returned (.bool S) ∧ Below w.heap.size w w' := by
  have hlen := hl.1
  have HL := Lib.hid hl
  have HT := Lib.hid hT
  have HTb := Lib.hid hTb
  have HTd := Lib.hid hTd
  have HSum := Lib.hid hsum
  have HM := Lib.hid hM
  have HS := Lib.hid hS
  clear hl hT hTb hTd hsum hM hS
  go_enter Tryd.func33, Tryd.ntmps33
  go_wp2_with fail
  go_loopw [3, 4, 5, 6] (fun v y _ _ wr => ∃ i : Nat, i ≤ n ∧ y = .int .i64 (i : Int) ∧ OwnT wr w.heap.size v ((l.take i).map sumT) ∧ T wr ∧ Below w.heap.size w wr ∧ Hid (∀ i' k, i' < i → k < i' → sumT (l.getD i' .empty) = sumT (l.getD k .empty) → l.getD i' .empty = l.getD k .empty)) (fun _ y _ _ _ => n - (intOf y).toNat)
  case atStart => exact ⟨0, by omega, rfl, World.ownsRow_nil _ _ _ _, HT.out, Below.refl _ _, fun i' k h => by omega⟩
  case round =>
    obtain ⟨i, hi, rfl, hown, ht, hbel, HNo⟩ := hrel
    have HO := Lib.hid hown
    have HTr := Lib.hid ht
    have HB := Lib.hid hbel
    clear hown ht hbel
    by_cases hlt : i < n
    · have hii : (i : Int) < (n : Int) := by omega
      have hi0 : (0 : Int) ≤ (i : Int) := by omega
      obtain ⟨b, off, rfl, c1⟩ := HL.out.at_ HB.out hlt
      obtain ⟨X, hX⟩ : ∃ X, l.getD i ByteArray.empty = X := ⟨_, rfl⟩
      rw [hX] at c1
      obtain ⟨Y, hY⟩ : ∃ Y, sumT X = Y := ⟨_, rfl⟩
      have HC := Lib.hid (fun w ht => HSum.out X w (by rw [← hX]; exact HM.out _ (getD_mem_ l i (by omega))) ht)
      rw [hY] at HC
      have HXY := Lib.hid (And.intro hX hY)
      clear hX hY
      go_wp2_with fail
      refine (HC.out wr HTr.out).mono ?_
      rintro e w2 ⟨rfl, h2⟩
      have B2 := Lib.hid (HB.out.trans (h2.mono HB.out.size))
      have O2 := Lib.hid (show OwnT w2 w.heap.size u3 ((l.take i).map sumT) from own_below HO.out h2)
      have T2 := Lib.hid (HTb.out w w2 HT.out B2.out)
      clear h2 c1
      go_wp2_with fail
      go_loopw [6] (fun z wi => ∃ k m : Nat, k ≤ i ∧ z = .int .i64 (k : Int) ∧ wi = w2.drewN m ∧ Hid (∀ k', k' < k → sumT (l.getD i .empty) = sumT (l.getD k' .empty) → l.getD i .empty = l.getD k' .empty)) (fun z _ => i - (intOf z).toNat)
      case atStart => exact ⟨0, 0, by omega, rfl, rfl, fun k' h => by omega⟩
      case round =>
        obtain ⟨k, m, hk, rfl, rfl, HNk⟩ := hrel
        by_cases hki : k < i
        · have hkii : (k : Int) < (i : Int) := by omega
          have hk0 : (0 : Int) ≤ (k : Int) := by omega
          have hkn : k < n := by omega
          have hin : (i : Int) < (n : Int) := hii
          have hkni : (k : Int) < (n : Int) := by omega
          obtain ⟨g, c, rfl, _, hg, hc, hcells⟩ := O2.out.slice (by rw [List.length_map, List.length_take]; omega)
          have hDl : ((l.take i).map sumT).length = i := by rw [List.length_map, List.length_take]; omega
          rw [hDl]
          obtain ⟨Z, hZ⟩ : ∃ Z, l.getD k ByteArray.empty = Z := ⟨_, rfl⟩
          have d1 : w2.cell? ⟨g, k, none⟩ = some (.string (sumT Z)) := by
            refine hcells k _ ?_
            rw [List.getElem?_map, List.getElem?_take_of_lt hki, List.getElem?_eq_getElem (by omega)]
            rw [← hZ, getD_eq_get l k (by omega)]
            rfl
          obtain ⟨b5, off5, e5, c1⟩ := HL.out.at_ B2.out hlt
          injection e5 with e5
          injection e5 with e6 e7
          subst e6; subst e7
          rw [HXY.out.1] at c1
          obtain ⟨b5, off5, e5, c2⟩ := HL.out.at_ B2.out hkn
          injection e5 with e5
          injection e5 with e6 e7
          subst e6; subst e7
          rw [hZ] at c2
          obtain ⟨Q, hQ⟩ : ∃ Q, sumT Z = Q := ⟨_, rfl⟩
          rw [hQ] at d1
          have HZQ := Lib.hid (And.intro hZ hQ)
          clear hcells hZ hQ
          by_cases hyq : Y = Q
          · have hself : (Y.toList == Q.toList) = true := by rw [hyq]; exact text_self Q
            by_cases hxz : X = Z
            · have hneq : (X.toList == Z.toList) = true := by rw [hxz]; exact text_self Z
              have HN2 := Lib.hid (show ∀ k', k' < k + 1 → sumT (l.getD i .empty) = sumT (l.getD k' .empty) → l.getD i .empty = l.getD k' .empty from fun k' h1 h2 => by
                rcases Nat.lt_or_ge k' k with h3 | h3
                · exact HNk.out k' h3 h2
                · obtain rfl : k' = k := by omega
                  rw [HXY.out.1, HZQ.out.1, hxz])
              clear hyq hxz
              go_wp2_with fail
              go_quiet (fail)
              go_wp2_with fail
              go_roundw
              case rel => exact ⟨k + 1, _, by omega, by go_num, rfl, HN2⟩
              case measure => simp [intOf]; omega
            · have hneq : (X.toList == Z.toList) = false := text_ne X Z hxz
              have hSt : S = true := HS.out.2 ⟨X, Z, by rw [← HXY.out.1]; exact getD_mem_ l i (by omega), by rw [← HZQ.out.1]; exact getD_mem_ l k (by omega), hxz, by rw [HXY.out.2, HZQ.out.2, hyq]⟩
              subst hSt
              clear hyq hxz
              go_wp2_with fail
              go_quiet (fail)
              go_wp2_with fail
              go_ret
              exact ⟨rfl, below_drewN (below_drewN B2.out _) _⟩
          · have hself : (Y.toList == Q.toList) = false := text_ne Y Q hyq
            have HN2 := Lib.hid (show ∀ k', k' < k + 1 → sumT (l.getD i .empty) = sumT (l.getD k' .empty) → l.getD i .empty = l.getD k' .empty from fun k' h1 h2 => by
              rcases Nat.lt_or_ge k' k with h3 | h3
              · exact HNk.out k' h3 h2
              · obtain rfl : k' = k := by omega
                exfalso
                rw [HXY.out.1, HZQ.out.1, HXY.out.2, HZQ.out.2] at h2
                exact hyq h2)
            clear hyq
            go_wp2_with fail
            go_quiet (fail)
            go_wp2_with fail
            go_roundw
            case rel => exact ⟨k + 1, _, by omega, by go_num, rfl, HN2⟩
            case measure => simp [intOf]; omega
        · have hkii : ¬ (k : Int) < (i : Int) := by omega
          obtain rfl : k = i := by omega
          have HN2 := Lib.hid (show ∀ i' k', i' < k + 1 → k' < i' → sumT (l.getD i' .empty) = sumT (l.getD k' .empty) → l.getD i' .empty = l.getD k' .empty from fun i' k' h1 h2 h3 => by
            rcases Nat.lt_or_ge i' k with h4 | h4
            · exact HNo.out i' k' h4 h2 h3
            · obtain rfl : i' = k := by omega
              exact HNk.out k' h2 h3)
          have hnext := Lib.hid (show (l.take (k + 1)).map sumT = (l.take k).map sumT ++ [Y] from by
            rw [take_getB l k (by omega), List.map_append, HXY.out.1, ← HXY.out.2]; rfl)
          obtain ⟨Xs, eXs⟩ : ∃ Xs : List Value, ((l.take k).map sumT).map Value.string = Xs := ⟨_, rfl⟩
          have hDl : ((l.take k).map sumT).length = k := by rw [List.length_map, List.length_take]; omega
          have HOk := Lib.hid (show (w2.drewN m).ownsRow w.heap.size 9 1 u3 k Xs from by have := O2.out; unfold OwnT at this; rw [hDl, eXs] at this; exact this)
          have EXs := Lib.hid (And.intro eXs hDl)
          have B3 := Lib.hid (below_drewN B2.out m)
          obtain ⟨i0, hi0, hz0, hz1, hz2⟩ := info_parts infoText
          have hk8 : k + 1 ≤ maxLen := by unfold maxLen; omega
          have hkb : (k + 1) * 16 ≤ 140737488355328 := by omega
          clear eXs hDl
          generalize w2.drewN m = wn at *
          go_wp2_with (at_builtin; refine wpList_append_own _ rfl (.tmp 40) (.tmp 42) 36 rfl w.heap.size 9 i0 (.string .empty) 1 16 Tryd.underlying36 hi0 hz0 hz1 hz2 rfl (by decide) u3 k Xs rfl (HOk.out.alloc _) ⟨wn.heap.size, 0, none⟩ 1 1 [.string Y] rfl rfl ?c1 ?c2 ?c3 ?c4 ?c5 ?_)
          case c2 => first | (intro u hu; simp at hu; subst hu; rfl) | rfl
          case c5 => have := B3.out.size; simp at this ⊢; omega
          intro v' w3 hown3 hgrow _
          have HO3 := Lib.hid (show OwnT w3 w.heap.size v' ((l.take (k + 1)).map sumT) from by
            unfold OwnT
            rw [hnext.out, List.map_append, List.length_append, EXs.out.1, EXs.out.2]
            exact hown3)
          have HB3 := Lib.hid (show Below w.heap.size w w3 from by
            refine (B3.out.alloc B3.out.size _).grown hgrow (by have := B3.out.size; simp at this ⊢; omega) ?_
            intro k' hk'
            exact (HOk.out.lt k' hk').1)
          have HT3 := Lib.hid (show T w3 from HTb.out w w3 HT.out HB3.out)
          clear hown3 hgrow hk8 hkb
          go_wp2_with fail
          go_roundw
          case rel => exact ⟨k + 1, by omega, by go_num, HO3.out, HT3.out, HB3.out, HN2⟩
          case measure => simp [intOf]; omega
    · have hii : ¬ (i : Int) < (n : Int) := by omega
      obtain rfl : i = n := by omega
      have hSf : S = false := by
        cases hSS : S with
        | false => rfl
        | true => exact absurd (HS.out.1 hSS) (clash_of l fun i' k' h1 h2 h3 => HNo.out i' k' (by omega) h2 h3)
      subst hSf
      clear hlt
      go_wp2_with fail
      go_ret
      exact ⟨rfl, HB.out⟩
end Go.Proofs.YtnkkckmejjcfkaaDoor.Sp
