/- Texts and blocks that stand apart from a trie's memory, while it turns. -/
import Derived.Test.YtnkkckmejjcfkaaGreatDoorTriOne
import Derived.Test.YtnkkckmejjcfkaaGreatDoorTrePure
import Derived.Test.YtnkkckmejjcfkaaGreatDoorGzI
import Derived.Test.YtnkkckmejjcfkaaGreatDoorGzA
import Derived.BigQuiet
import Derived.Deep.RegionLaw
import Derived.Deep.Cut
import Derived.Test.YtnkkckmejjcfkaaGreatDoorGzG
namespace Go.Proofs.YtnkkckmejjcfkaaGreatDoor.Sp
open Go Go.RowKit

def StrsOff (w : World) (F : Nat → Prop) (a : Option Addr) (n : Nat) (ss : List ByteArray) : Prop := Strs w a n ss ∧ (0 < n → ∀ p, a = some p → ¬ F p.block)
theorem StrsOff.turn {w w' : World} {F F' : Nat → Prop} {a : Option Addr} {n : Nat} {ss : List ByteArray} (h : StrsOff w F a n ss) (hu : Turned F w w') (hw : Within F F' w) : StrsOff w' F' a n ss := by
  refine ⟨⟨h.1.1, fun hn => ?_⟩, fun hn p hp => ?_⟩
  · obtain ⟨b, off, rfl, hc⟩ := h.1.2 hn
    refine ⟨b, off, rfl, fun j hj => ?_⟩
    have h1 := hu.block b (block_lt_of_cell (hc 0 hn)) (h.2 hn _ rfl)
    have h2 := hc j hj
    unfold World.cell? at h2 ⊢
    simp only [h1]
    exact h2
  · obtain ⟨b, off, rfl, hc⟩ := h.1.2 hn
    injection hp with hp
    subst hp
    exact off_within (block_lt_of_cell (hc 0 hn)) (h.2 hn _ rfl) hw
theorem StrsOff.below {w w' : World} {F : Nat → Prop} {a : Option Addr} {n : Nat} {ss : List ByteArray} (h : StrsOff w F a n ss) (hb : Below w.heap.size w w') : StrsOff w' F a n ss := ⟨h.1.below hb, h.2⟩
theorem StrsOff.other {w w' : World} {F G : Nat → Prop} {a : Option Addr} {n : Nat} {ss : List ByteArray} (h : StrsOff w F a n ss) (hu : Turned G w w') (hg : ∀ k, k < w.heap.size → ¬ F k → ¬ G k) : StrsOff w' F a n ss := by
  refine ⟨⟨h.1.1, fun hn => ?_⟩, h.2⟩
  obtain ⟨b, off, rfl, hc⟩ := h.1.2 hn
  refine ⟨b, off, rfl, fun j hj => ?_⟩
  have h0 := block_lt_of_cell (hc 0 hn)
  have h1 := hu.block b h0 (hg _ h0 (h.2 hn _ rfl))
  have h2 := hc j hj
  unfold World.cell? at h2 ⊢
  simp only [h1]
  exact h2
end Go.Proofs.YtnkkckmejjcfkaaGreatDoor.Sp

/- One act of several; a copy beside a pair of tries. -/
namespace Go.Proofs.YtnkkckmejjcfkaaGreatDoor.Sp
open Go Go.RowKit

theorem acts_one {w : World} {b off n k : Nat} {l : List Act} (h : Acts w (some ⟨b, off, none⟩) n l) (hk : k < n) : Acts w (some ⟨b, off + k * 3, none⟩) 1 [l.getD k Act.none_] := by
  refine ⟨rfl, fun _ => ⟨b, off + k * 3, rfl, fun j hj => ?_⟩⟩
  obtain rfl : j = 0 := by omega
  obtain ⟨b1, off1, e, hc⟩ := h.2 (by omega)
  injection e with e
  injection e with e1 e2
  subst e1; subst e2
  have h1 := hc k hk
  simp only [Nat.zero_mul, Nat.add_zero]
  exact h1
theorem does_one (l : List Ent) (x : Act) : doesF l [x] = stepF l x := rfl
theorem acts_next (l : List Ent) (acts : List Act) (k : Nat) (h : k < acts.length) : actsF l (acts.take (k + 1)) = stepF (actsF l (acts.take k)) (acts.getD k Act.none_) := by
  rw [take_act acts k h, actsF_snoc]
/-- .. while another one's memory turns. -/
theorem Two.beside {Tg : World → (Nat → Prop) → Nat → List Ent → Prop} (R : TriR Tg) {w0 w w' : World} {F G H : Nat → Prop} {g h : Nat} {l m : List Ent} (s : Two Tg w0 w F G g h l m) (hu : Turned H w w') (hf : ∀ k, F k → ¬ H k) (hg : ∀ k, G k → ¬ H k) (hH : ∀ k, H k → w0.heap.size ≤ k) : Two Tg w0 w' F G g h l m where
  t := R.other s.t hu hf
  u := s.u.other hu hg
  apart := s.apart
  below := hu.below s.below hH s.below.size
  bf := s.bf
  bg := s.bg
theorem Two.fresh0 {Tg : World → (Nat → Prop) → Nat → List Ent → Prop} (R : TriR Tg) {w0 w w1 : World} {F H : Nat → Prop} {g h : Nat} {l : List Ent} (s : One Tg w0 w F g l) (ht : Tq w1 H h []) (hH : ∀ k, H k → w.heap.size ≤ k) (hb : Below w.heap.size w w1) : Two Tg w0 w1 F H g h l [] := Two.fresh R s ht hH hb
end Go.Proofs.YtnkkckmejjcfkaaGreatDoor.Sp

/- Texts and Clash of the statements of package tree, where package tree itself is not reached. -/
namespace Go.Proofs.YtnkkckmejjcfkaaGreatDoor.Sp
open Go Go.RowKit
set_option maxRecDepth 100000

theorem text_self (x : ByteArray) : (x.toList == x.toList) = true := by simp
theorem text_ne (x y : ByteArray) (h : x ≠ y) : (x.toList == y.toList) = false := by
  cases e : (x.toList == y.toList) with
  | false => rfl
  | true =>
    exfalso
    apply h
    have e2 := eq_of_beq e
    rw [Lib.toList_data, Lib.toList_data] at e2
    have h6 := Array.toList_inj.1 e2
    cases x; cases y; simp only at h6; rw [h6]
theorem texts_ext (A B : List ByteArray) (n : Nat) (hA : A.length = n) (hB : B.length = n) (h : ∀ j, j < n → A.getD j ByteArray.empty = B.getD j ByteArray.empty) : A = B := by
  apply List.ext_getElem (by omega)
  intro j h1 h2
  have q : ∀ (l : List ByteArray) (hj : j < l.length), l[j] = l.getD j ByteArray.empty := by
    intro l hj; rw [List.getD_eq_getElem?_getD, List.getElem?_eq_getElem hj]; rfl
  rw [q A h1, q B h2]
  exact h j (by omega)
theorem Strs.at_ {w wr : World} {a : Option Addr} {n k : Nat} {ss : List ByteArray} (h : Strs w a n ss) (hb : Below w.heap.size w wr) (hk : k < n) :
    ∃ b off, a = some ⟨b, off, none⟩ ∧ wr.cell? ⟨b, off + k, none⟩ = some (.string (ss.getD k ByteArray.empty)) := by
  obtain ⟨b, off, rfl, hc⟩ := (h.below hb).2 (by omega)
  exact ⟨b, off, rfl, hc k hk⟩

theorem getD_eq_get (l : List ByteArray) (k : Nat) (h : k < l.length) : l.getD k ByteArray.empty = l[k] := by
  rw [List.getD_eq_getElem?_getD, List.getElem?_eq_getElem h]; rfl
theorem clash_of (l : List ByteArray) (h : ∀ i k, i < l.length → k < i → sumT (l.getD i .empty) = sumT (l.getD k .empty) → l.getD i .empty = l.getD k .empty) : ¬ ClashIn l := by
  rintro ⟨u, v, hu, hv, hne, hs⟩
  obtain ⟨i, hi, rfl⟩ := List.getElem_of_mem hu
  obtain ⟨k, hk, rfl⟩ := List.getElem_of_mem hv
  rw [← getD_eq_get l i hi, ← getD_eq_get l k hk] at hne hs
  rcases Nat.lt_trichotomy i k with h1 | h1 | h1
  · exact hne (h k i hk h1 hs.symm).symm
  · subst h1; exact hne rfl
  · exact hne (h i k hi h1 hs)

set_option maxHeartbeats 4000000 in
theorem clash_any (T : World → Prop) (hTd : ∀ w n, T w → T (w.drewN n)) (hTb : ∀ w w', T w → Below w.heap.size w w' → T w')
    (hsum : ∀ (b : ByteArray) (w : World), b.size ≤ 9223372036854775000 → T w → Calls Tryz.prog 58 #[.string b] w fun e w' => e = .returned (.string (sumT b)) ∧ Below w.heap.size w w')
    (l : List ByteArray) (a : Option Addr) (n cap : Nat) (hn : n ≤ 4294967296) (hM : ∀ x ∈ l, x.size ≤ 9223372036854775000) (S : Bool) (hS : S = true ↔ ClashIn l) (w : World) (hl : Strs w a n l) (hT : T w) :
    Calls Tryz.prog 31 #[.slice a n cap] w fun e w' => e = .returned (.bool S) ∧ Below w.heap.size w w' := by
  have hlen := hl.1
  have HL := Lib.hid hl
  have HT := Lib.hid hT
  have HTb := Lib.hid hTb
  have HTd := Lib.hid hTd
  have HSum := Lib.hid hsum
  have HM := Lib.hid hM
  have HS := Lib.hid hS
  clear hl hT hTb hTd hsum hM hS
  go_enter Tryz.func31, Tryz.ntmps31
  go_wp2_with fail
  go_loopw [3, 4, 5, 6] (fun v y _ _ wr => ∃ i : Nat, i ≤ n ∧ y = .int .i64 (i : Int) ∧ OwnT wr w.heap.size v ((l.take i).map sumT) ∧ T wr ∧ Below w.heap.size w wr ∧ Hid (∀ i' k, i' < i → k < i' → sumT (l.getD i' .empty) = sumT (l.getD k .empty) → l.getD i' .empty = l.getD k .empty)) (fun _ y _ _ _ => n - (intOf y).toNat)
  case atStart => exact ⟨0, by omega, rfl, World.ownsRow_nil _ _ _ _, HT.out, Below.refl _ _, fun i' k h => by omega⟩
  case round =>
    obtain ⟨i, hi, rfl, hown, ht, hbel, HNo⟩ := hrel
    have HO := Lib.hid hown
    have HTr := Lib.hid ht
    have HB := Lib.hid hbel
    clear hown ht hbel
    by_cases hlt : i < n
    · have hii : (i : Int) < (n : Int) := by omega
      have hi0 : (0 : Int) ≤ (i : Int) := by omega
      obtain ⟨b, off, rfl, c1⟩ := HL.out.at_ HB.out hlt
      obtain ⟨X, hX⟩ : ∃ X, l.getD i ByteArray.empty = X := ⟨_, rfl⟩
      rw [hX] at c1
      obtain ⟨Y, hY⟩ : ∃ Y, sumT X = Y := ⟨_, rfl⟩
      have HC := Lib.hid (fun w ht => HSum.out X w (by rw [← hX]; exact HM.out _ (getD_mem_ l i (by omega))) ht)
      rw [hY] at HC
      have HXY := Lib.hid (And.intro hX hY)
      clear hX hY
      go_wp2_with fail
      refine (HC.out wr HTr.out).mono ?_
      rintro e w2 ⟨rfl, h2⟩
      have B2 := Lib.hid (HB.out.trans (h2.mono HB.out.size))
      have O2 := Lib.hid (show OwnT w2 w.heap.size u3 ((l.take i).map sumT) from own_below HO.out h2)
      have T2 := Lib.hid (HTb.out w w2 HT.out B2.out)
      clear h2 c1
      go_wp2_with fail
      go_loopw [6] (fun z wi => ∃ k m : Nat, k ≤ i ∧ z = .int .i64 (k : Int) ∧ wi = w2.drewN m ∧ Hid (∀ k', k' < k → sumT (l.getD i .empty) = sumT (l.getD k' .empty) → l.getD i .empty = l.getD k' .empty)) (fun z _ => i - (intOf z).toNat)
      case atStart => exact ⟨0, 0, by omega, rfl, rfl, fun k' h => by omega⟩
      case round =>
        obtain ⟨k, m, hk, rfl, rfl, HNk⟩ := hrel
        by_cases hki : k < i
        · have hkii : (k : Int) < (i : Int) := by omega
          have hk0 : (0 : Int) ≤ (k : Int) := by omega
          have hkn : k < n := by omega
          have hin : (i : Int) < (n : Int) := hii
          have hkni : (k : Int) < (n : Int) := by omega
          obtain ⟨g, c, rfl, _, hg, hc, hcells⟩ := O2.out.slice (by rw [List.length_map, List.length_take]; omega)
          have hDl : ((l.take i).map sumT).length = i := by rw [List.length_map, List.length_take]; omega
          rw [hDl]
          obtain ⟨Z, hZ⟩ : ∃ Z, l.getD k ByteArray.empty = Z := ⟨_, rfl⟩
          have d1 : w2.cell? ⟨g, k, none⟩ = some (.string (sumT Z)) := by
            refine hcells k _ ?_
            rw [List.getElem?_map, List.getElem?_take_of_lt hki, List.getElem?_eq_getElem (by omega)]
            rw [← hZ, getD_eq_get l k (by omega)]
            rfl
          obtain ⟨b5, off5, e5, c1⟩ := HL.out.at_ B2.out hlt
          injection e5 with e5
          injection e5 with e6 e7
          subst e6; subst e7
          rw [HXY.out.1] at c1
          obtain ⟨b5, off5, e5, c2⟩ := HL.out.at_ B2.out hkn
          injection e5 with e5
          injection e5 with e6 e7
          subst e6; subst e7
          rw [hZ] at c2
          obtain ⟨Q, hQ⟩ : ∃ Q, sumT Z = Q := ⟨_, rfl⟩
          rw [hQ] at d1
          have HZQ := Lib.hid (And.intro hZ hQ)
          clear hcells hZ hQ
          by_cases hyq : Y = Q
          · have hself : (Y.toList == Q.toList) = true := by rw [hyq]; exact text_self Q
            by_cases hxz : X = Z
            · have hneq : (X.toList == Z.toList) = true := by rw [hxz]; exact text_self Z
              have HN2 := Lib.hid (show ∀ k', k' < k + 1 → sumT (l.getD i .empty) = sumT (l.getD k' .empty) → l.getD i .empty = l.getD k' .empty from fun k' h1 h2 => by
                rcases Nat.lt_or_ge k' k with h3 | h3
                · exact HNk.out k' h3 h2
                · obtain rfl : k' = k := by omega
                  rw [HXY.out.1, HZQ.out.1, hxz])
              clear hyq hxz
              go_wp2_with fail
              go_quiet (fail)
              go_wp2_with fail
              go_roundw
              case rel => exact ⟨k + 1, _, by omega, by go_num, rfl, HN2⟩
              case measure => simp [intOf]; omega
            · have hneq : (X.toList == Z.toList) = false := text_ne X Z hxz
              have hSt : S = true := HS.out.2 ⟨X, Z, by rw [← HXY.out.1]; exact getD_mem_ l i (by omega), by rw [← HZQ.out.1]; exact getD_mem_ l k (by omega), hxz, by rw [HXY.out.2, HZQ.out.2, hyq]⟩
              subst hSt
              clear hyq hxz
              go_wp2_with fail
              go_quiet (fail)
              go_wp2_with fail
              go_ret
              exact ⟨rfl, below_drewN (below_drewN B2.out _) _⟩
          · have hself : (Y.toList == Q.toList) = false := text_ne Y Q hyq
            have HN2 := Lib.hid (show ∀ k', k' < k + 1 → sumT (l.getD i .empty) = sumT (l.getD k' .empty) → l.getD i .empty = l.getD k' .empty from fun k' h1 h2 => by
              rcases Nat.lt_or_ge k' k with h3 | h3
              · exact HNk.out k' h3 h2
              · obtain rfl : k' = k := by omega
                exfalso
                rw [HXY.out.1, HZQ.out.1, HXY.out.2, HZQ.out.2] at h2
                exact hyq h2)
            clear hyq
            go_wp2_with fail
            go_quiet (fail)
            go_wp2_with fail
            go_roundw
            case rel => exact ⟨k + 1, _, by omega, by go_num, rfl, HN2⟩
            case measure => simp [intOf]; omega
        · have hkii : ¬ (k : Int) < (i : Int) := by omega
          obtain rfl : k = i := by omega
          have HN2 := Lib.hid (show ∀ i' k', i' < k + 1 → k' < i' → sumT (l.getD i' .empty) = sumT (l.getD k' .empty) → l.getD i' .empty = l.getD k' .empty from fun i' k' h1 h2 h3 => by
            rcases Nat.lt_or_ge i' k with h4 | h4
            · exact HNo.out i' k' h4 h2 h3
            · obtain rfl : i' = k := by omega
              exact HNk.out k' h2 h3)
          have hnext := Lib.hid (show (l.take (k + 1)).map sumT = (l.take k).map sumT ++ [Y] from by
            rw [take_getB l k (by omega), List.map_append, HXY.out.1, ← HXY.out.2]; rfl)
          obtain ⟨Xs, eXs⟩ : ∃ Xs : List Value, ((l.take k).map sumT).map Value.string = Xs := ⟨_, rfl⟩
          have hDl : ((l.take k).map sumT).length = k := by rw [List.length_map, List.length_take]; omega
          have HOk := Lib.hid (show (w2.drewN m).ownsRow w.heap.size 9 1 u3 k Xs from by have := O2.out; unfold OwnT at this; rw [hDl, eXs] at this; exact this)
          have EXs := Lib.hid (And.intro eXs hDl)
          have B3 := Lib.hid (below_drewN B2.out m)
          obtain ⟨i0, hi0, hz0, hz1, hz2⟩ := info_parts infoText
          have hk8 : k + 1 ≤ maxLen := by unfold maxLen; omega
          have hkb : (k + 1) * 16 ≤ 140737488355328 := by omega
          clear eXs hDl
          generalize w2.drewN m = wn at *
          go_wp2_with (at_builtin; refine wpList_append_own _ rfl (.tmp 40) (.tmp 42) 37 rfl w.heap.size 9 i0 (.string .empty) 1 16 Tryz.underlying37 hi0 hz0 hz1 hz2 rfl (by decide) u3 k Xs rfl (HOk.out.alloc _) ⟨wn.heap.size, 0, none⟩ 1 1 [.string Y] rfl rfl ?c1 ?c2 ?c3 ?c4 ?c5 ?_)
          case c2 => first | (intro u hu; simp at hu; subst hu; rfl) | rfl
          case c5 => have := B3.out.size; simp at this ⊢; omega
          intro v' w3 hown3 hgrow _
          have HO3 := Lib.hid (show OwnT w3 w.heap.size v' ((l.take (k + 1)).map sumT) from by
            unfold OwnT
            rw [hnext.out, List.map_append, List.length_append, EXs.out.1, EXs.out.2]
            exact hown3)
          have HB3 := Lib.hid (show Below w.heap.size w w3 from by
            refine (B3.out.alloc B3.out.size _).grown hgrow (by have := B3.out.size; simp at this ⊢; omega) ?_
            intro k' hk'
            exact (HOk.out.lt k' hk').1)
          have HT3 := Lib.hid (show T w3 from HTb.out w w3 HT.out HB3.out)
          clear hown3 hgrow hk8 hkb
          go_wp2_with fail
          go_roundw
          case rel => exact ⟨k + 1, by omega, by go_num, HO3.out, HT3.out, HB3.out, HN2⟩
          case measure => simp [intOf]; omega
    · have hii : ¬ (i : Int) < (n : Int) := by omega
      obtain rfl : i = n := by omega
      have hSf : S = false := by
        cases hSS : S with
        | false => rfl
        | true => exact absurd (HS.out.1 hSS) (clash_of l fun i' k' h1 h2 h3 => HNo.out i' k' (by omega) h2 h3)
      subst hSf
      clear hlt
      go_wp2_with fail
      go_ret
      exact ⟨rfl, HB.out⟩
end Go.Proofs.YtnkkckmejjcfkaaGreatDoor.Sp

/- Two lists of texts: are they the same? (As statements of package tree and others call it.) -/
namespace Go.Proofs.YtnkkckmejjcfkaaGreatDoor.Sp
open Go Go.RowKit
set_option maxRecDepth 100000

set_option maxHeartbeats 1000000 in
theorem texts_any (A B : List ByteArray) (a b : Option Addr) (na nb ca cb : Nat) (w : World) (h1 : Strs w a na A) (h2 : Strs w b nb B) (hn : na ≤ 9223372036854775807) (S : Bool) (hS : S = true ↔ A = B) :
    Calls Tryz.prog 44 #[.slice a na ca, .slice b nb cb] w fun e w' => e = .returned (.bool S) ∧ Below w.heap.size w w' := by
  have l1 := h1.1
  have l2 := h2.1
  have H1 := Lib.hid h1
  have H2 := Lib.hid h2
  have HS := Lib.hid hS
  clear h1 h2 hS
  by_cases hl : na = nb
  · subst hl
    go_enter Tryz.func44, Tryz.ntmps44
    go_wp2_with fail
    go_loopw [5] (fun x wr => ∃ k : Nat, k ≤ na ∧ x = .int .i64 (k : Int) ∧ (∀ j, j < k → A.getD j ByteArray.empty = B.getD j ByteArray.empty) ∧ Below w.heap.size w wr) (fun x _ => na - (intOf x).toNat)
    case atStart => exact ⟨0, by omega, rfl, fun j hj => by omega, Below.refl _ _⟩
    case round =>
      obtain ⟨k, hk, rfl, hsame, hbel⟩ := hrel
      have HM := Lib.hid hsame
      have HB := Lib.hid hbel
      clear hsame hbel
      by_cases hlt : k < na
      · have hki : (k : Int) < (na : Int) := by omega
        have hk0 : (0 : Int) ≤ (k : Int) := by omega
        obtain ⟨ba, oa, rfl, c1⟩ := H1.out.at_ HB.out hlt
        obtain ⟨bb, ob, rfl, c2⟩ := H2.out.at_ HB.out hlt
        obtain ⟨x, hx⟩ : ∃ x, A.getD k ByteArray.empty = x := ⟨_, rfl⟩
        obtain ⟨y, hy⟩ : ∃ y, B.getD k ByteArray.empty = y := ⟨_, rfl⟩
        simp only [hx] at c1
        simp only [hy] at c2
        by_cases hxy : x = y
        · subst hxy
          have HM2 := Lib.hid (show ∀ j, j < k + 1 → A.getD j ByteArray.empty = B.getD j ByteArray.empty from fun j hj => by
            rcases Nat.lt_or_ge j k with h | h
            · exact HM.out j h
            · obtain rfl : j = k := by omega
              rw [hx, hy])
          have hself := text_self x
          clear hx hy HM
          go_wp2_with fail
          go_quiet (fail)
          go_wp2_with fail
          go_roundw
          case rel => exact ⟨k + 1, by omega, by go_num, HM2.out, below_drewN HB.out _⟩
          case measure => simp [intOf]; omega
        · have hne := text_ne x y hxy
          have hSf : S = false := by
            cases hSS : S with
            | false => rfl
            | true => exact absurd (by rw [← hx, ← hy, HS.out.1 hSS]) hxy
          subst hSf
          clear hx hy hlt HM
          go_wp2_with fail
          go_quiet (fail)
          go_wp2_with fail
          go_ret
          exact ⟨rfl, below_drewN HB.out _⟩
      · have hki : ¬ (k : Int) < (na : Int) := by omega
        have hSt : S = true := HS.out.2 (texts_ext A B na l1 l2 fun j hj => HM.out j (by omega))
        subst hSt
        clear hlt
        go_wp2_with fail
        go_ret
        exact ⟨rfl, HB.out⟩
  · have hli : ¬ (na : Int) = (nb : Int) := by omega
    have hSf : S = false := by
      cases hSS : S with
      | false => rfl
      | true => exact absurd (by rw [← l1, ← l2, HS.out.1 hSS]) hl
    subst hSf
    clear hl
    go_enter Tryz.func44, Tryz.ntmps44
    go_wp2_with fail
    go_ret
    exact ⟨rfl, Below.refl _ _⟩
end Go.Proofs.YtnkkckmejjcfkaaGreatDoor.Sp

/- The document's own bits of paths. -/
namespace Go.Proofs.YtnkkckmejjcfkaaGreatDoor.Sp
open Go Go.RowKit
set_option maxRecDepth 100000

set_option maxHeartbeats 1000000 in
theorem qbit_any (p : ByteArray) (d : Nat) (hd : d < 8 * p.size) (hp : p.size ≤ 4294967296) (w : World) :
    Calls Tryz.prog 48 #[.string p, .int .i64 (d : Int)] w fun e w' => e = .returned (.int .i64 (bitN p d : Int)) ∧ w = w' := by
  obtain ⟨q, hq⟩ : ∃ q, d / 8 = q := ⟨_, rfl⟩
  obtain ⟨r, hr⟩ : ∃ r, d % 8 = r := ⟨_, rfl⟩
  obtain ⟨s, hs⟩ : ∃ s, 7 - r = s := ⟨_, rfl⟩
  have hqn : q < p.size := by omega
  obtain ⟨b, hb⟩ : ∃ b, p[q].toNat = b := ⟨_, rfl⟩
  have hb256 : b < 256 := by rw [← hb]; exact p[q].toNat_lt
  obtain ⟨x, hx⟩ : ∃ x, b / 2 ^ s = x := ⟨_, rfl⟩
  obtain ⟨y, hy⟩ : ∃ y, x % 2 = y := ⟨_, rfl⟩
  have hbit : bitN p d = y := by
    unfold bitN
    rw [hq, hr, hs, getD_data p q q rfl hqn, hb, hx, hy]
  have hx256 : x < 256 := by rw [← hx]; exact Nat.lt_of_le_of_lt (Nat.div_le_self _ _) hb256
  have hdq : (d : Int).tdiv 8 = (q : Int) := by rw [Int.tdiv_eq_ediv_of_nonneg (by omega)]; omega
  have hdr : (d : Int).tmod 8 = (r : Int) := by rw [Int.tmod_eq_emod_of_nonneg (by omega)]; omega
  have hwq : IntKind.i64.wrap (q : Int) = (q : Int) := by rw [IntKind.wrap_i64]; omega
  have hwr : IntKind.i64.wrap (r : Int) = (r : Int) := by rw [IntKind.wrap_i64]; omega
  have h7 : (7 : Int) - (r : Int) = (s : Int) := by omega
  have hws : IntKind.i64.wrap (s : Int) = (s : Int) := by rw [IntKind.wrap_i64]; omega
  have hwx : IntKind.i64.wrap (x : Int) = (x : Int) := by rw [IntKind.wrap_i64]; omega
  have hxy : (x : Int).tmod 2 = (y : Int) := by rw [Int.tmod_eq_emod_of_nonneg (by omega)]; omega
  have hwy : IntKind.i64.wrap (y : Int) = (y : Int) := by rw [IntKind.wrap_i64]; omega
  have hwb : IntKind.i64.wrap (b : Int) = (b : Int) := by rw [IntKind.wrap_i64]; omega
  have hqi : (q : Int) < (p.size : Int) := by omega
  have hq0 : (0 : Int) ≤ (q : Int) := by omega
  have hs0 : ¬ (s : Int) < 0 := by omega
  have hs8 : (s : Int) < 64 := by omega
  rw [hbit]
  have HX := Lib.hid hx
  clear hx hy hq hr hs hbit
  go_enter Tryz.func48, Tryz.ntmps48
  go_wp2_with fail
  go_ret
  refine ⟨?_, rfl⟩
  show Ending.returned (.int .i64 (((b : Int) / 2 ^ s).tmod 2)) = _
  have e : (b : Int) / 2 ^ s = (x : Int) := by rw [← HX.out]; simp
  rw [e, hxy]
end Go.Proofs.YtnkkckmejjcfkaaGreatDoor.Sp
