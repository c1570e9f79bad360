/- The statements of package trie: acts in a trie of the program's and in one of the document's. -/
import Derived.Test.YtnkkckmejjcfkaaGreatDoorGzW
import Derived.Test.YtnkkckmejjcfkaaGreatDoorGzM
import Derived.Test.YtnkkckmejjcfkaaGreatDoorTriQSet
namespace Go.Proofs.YtnkkckmejjcfkaaGreatDoor.Sp
open Go Go.RowKit
set_option maxRecDepth 100000

theorem Turned.orl {F G : Nat → Prop} {w w' : World} (h : Turned F w w') : Turned (fun k => F k ∨ G k) w w' := ⟨h.os, h.tape, h.output, h.size, fun k hk hn => h.block k hk (fun hf => hn (.inl hf))⟩
theorem Turned.orr {F G : Nat → Prop} {w w' : World} (h : Turned G w w') : Turned (fun k => F k ∨ G k) w w' := ⟨h.os, h.tape, h.output, h.size, fun k hk hn => h.block k hk (fun hf => hn (.inr hf))⟩
theorem Within.or {F F' G G' : Nat → Prop} {w : World} (h : Within F F' w) (k : Within G G' w) : Within (fun k => F k ∨ G k) (fun k => F' k ∨ G' k) w := fun j hj => by
  rcases hj with hj | hj
  · rcases h j hj with h1 | h1
    · exact .inl (.inl h1)
    · exact .inr h1
  · rcases k j hj with h1 | h1
    · exact .inl (.inr h1)
    · exact .inr h1
theorem Acts.at_ {w wr : World} {a : Option Addr} {n k : Nat} {l : List Act} (h : Acts w a n l) (hb : Below w.heap.size w wr) (hk : k < n) :
    ∃ b off, a = some ⟨b, off, none⟩ ∧ wr.cell? ⟨b, off + k * 3, none⟩ = some (.int .i64 (l.getD k Act.none_).what) ∧ wr.cell? ⟨b, off + k * 3 + 1, none⟩ = some (.int .i64 (l.getD k Act.none_).key) ∧ wr.cell? ⟨b, off + k * 3 + 2, none⟩ = some (.string (l.getD k Act.none_).value) := by
  obtain ⟨b, off, rfl, hc⟩ := (h.below hb).2 (by omega)
  exact ⟨b, off, rfl, hc k hk⟩
theorem act_mem (l : List Act) (k : Nat) (h : k < l.length) : l.getD k Act.none_ ∈ l := by
  rw [List.getD_eq_getElem?_getD, List.getElem?_eq_getElem h]; exact List.getElem_mem h
theorem take_act (l : List Act) (k : Nat) (h : k < l.length) : l.take (k + 1) = l.take k ++ [l.getD k Act.none_] := by
  rw [List.take_succ_eq_append_getElem h, List.getD_eq_getElem?_getD, List.getElem?_eq_getElem h]; rfl
/-- Two tries, one of the program's and one of the document's, that lie apart, behind what there was at first. -/
structure Two (Tg : World → (Nat → Prop) → Nat → List Ent → Prop) (w0 w : World) (F G : Nat → Prop) (g h : Nat) (l m : List Ent) : Prop where
  t : Tg w F g l
  u : Tq w G h m
  apart : ∀ k, F k → ¬ G k
  below : Below w0.heap.size w0 w
  bf : ∀ k, F k → w0.heap.size ≤ k
  bg : ∀ k, G k → w0.heap.size ≤ k
/-- .. after a call on the first one. -/
theorem Two.first {Tg : World → (Nat → Prop) → Nat → List Ent → Prop} {w0 w w' : World} {F G F' : Nat → Prop} {g h : Nat} {l l' m : List Ent} (s : Two Tg w0 w F G g h l m) (ht : Tg w' F' g l') (hu : Turned F w w') (hw : Within F F' w) : Two Tg w0 w' F' G g h l' m where
  t := ht
  u := s.u.other hu (fun k hk hf => s.apart k hf hk)
  apart := fun k hk hg => (hw k hk).elim (fun hf => s.apart k hf hg) (fun h1 => by have := s.u.lt k hg; omega)
  below := hu.below s.below s.bf s.below.size
  bf := hw.from s.bf s.below.size
  bg := s.bg
/-- .. on the second one. -/
theorem Two.second {Tg : World → (Nat → Prop) → Nat → List Ent → Prop} (R : TriR Tg) {w0 w w' : World} {F G G' : Nat → Prop} {g h : Nat} {l m m' : List Ent} (s : Two Tg w0 w F G g h l m) (ht : Tq w' G' h m') (hu : Turned G w w') (hw : Within G G' w) : Two Tg w0 w' F G' g h l m' where
  t := R.other s.t hu s.apart
  u := ht
  apart := fun k hf hk => (hw k hk).elim (fun hg => s.apart k hf hg) (fun h1 => by have := R.lt s.t k hf; omega)
  below := hu.below s.below s.bg s.below.size
  bf := s.bf
  bg := hw.from s.bg s.below.size
theorem Two.keep {Tg : World → (Nat → Prop) → Nat → List Ent → Prop} (R : TriR Tg) {w0 w w' : World} {F G : Nat → Prop} {g h : Nat} {l m : List Ent} (s : Two Tg w0 w F G g h l m) (hb : Below w.heap.size w w') : Two Tg w0 w' F G g h l m where
  t := R.below s.t hb
  u := s.u.below hb
  apart := s.apart
  below := s.below.trans (hb.mono s.below.size)
  bf := s.bf
  bg := s.bg
/-- How Does leaves them. -/
def DoTo (Tg : World → (Nat → Prop) → Nat → List Ent → Prop) (w0 w : World) (F G : Nat → Prop) (g h : Nat) (l m : List Ent) (e : Ending) (w' : World) : Prop :=
  ∃ F' G', e = .returned (.tuple #[]) ∧ Two Tg w0 w' F' G' g h l m ∧ Turned (fun k => F k ∨ G k) w w' ∧ Within F F' w ∧ Within G G' w

set_option maxHeartbeats 4000000 in
theorem does_any {Tg : World → (Nat → Prop) → Nat → List Ent → Prop} (R : TriR Tg) (w0 w : World) (F G : Nat → Prop) (g h : Nat) (l m : List Ent) (acts : List Act) (a : Option Addr) (n c : Nat)
    (s : Two Tg w0 w F G g h l m) (hm : l.length ≤ 900000 ∧ m.length ≤ 900000) (hok : ∀ x ∈ acts, ActOk x) (hA : Acts w0 a n acts) (hn : n ≤ 9223372036854775807) (hT : Tab w0) (hQ : Tabs w0) :
    Calls Tryz.prog 10 #[.pointer (some ⟨g, 0, none⟩), .pointer (some ⟨h, 0, none⟩), .slice a n c] w (DoTo Tg w0 w F G g h (doesF l acts) (doesF m acts)) := by
  have hlen := hA.1
  have HOk := Lib.hid hok
  have HA := Lib.hid hA
  have HT := Lib.hid (And.intro hT hQ)
  have HS := Lib.hid s
  have HR := Lib.hid R
  clear hok hA hT hQ s R
  go_enter Tryz.func10, Tryz.ntmps10
  go_wp2_with fail
  go_loopw [6] (fun y wr => ∃ (k : Nat) (F1 G1 : Nat → Prop), k ≤ n ∧ k ≤ 40 ∧ y = .int .i64 (k : Int) ∧ Two Tg w0 wr F1 G1 g h (actsF l (acts.take k)) (actsF m (acts.take k)) ∧ Turned (fun k => F k ∨ G k) w wr ∧ Within F F1 w ∧ Within G G1 w) (fun y _ => 40 - (intOf y).toNat)
  case atStart => exact ⟨0, F, G, by omega, by omega, rfl, HS.out, Turned.refl _ _, Within.refl _ _, Within.refl _ _⟩
  case round =>
    obtain ⟨k, F1, G1, hk, hk40, rfl, hs, htu, hwf, hwg⟩ := hrel
    have S1 := Lib.hid hs
    have HTu := Lib.hid htu
    have HWf := Lib.hid hwf
    have HWg := Lib.hid hwg
    clear hs htu hwf hwg
    by_cases hlt : k < n
    · have hki : (k : Int) < (n : Int) := by omega
      have hk0 : (0 : Int) ≤ (k : Int) := by omega
      by_cases h40 : k < 40
      · have h40i : (k : Int) < 40 := by omega
        obtain ⟨b, off, rfl, c0, c1, c2⟩ := HA.out.at_ S1.out.below hlt
        obtain ⟨x, hx⟩ : ∃ x, acts.getD k Act.none_ = x := ⟨_, rfl⟩
        rw [hx] at c0 c1 c2
        have hxo := HOk.out x (by rw [← hx]; exact act_mem acts k (by omega))
        have hnext := take_act acts k (by omega)
        rw [hx] at hnext
        obtain ⟨⟨w1a, w1b⟩, ⟨k1a, k1b⟩, hxv⟩ := hxo
        have HKey := Lib.hid (fun w => key_any x.key k1a k1b w)
        have HPk := Lib.hid (fun w => tpick_any x.what 5 (by omega) (by omega) w1a w1b w)
        have hks : (keyOf x.key).size ≤ 140737488351232 := by show (1 : Nat) ≤ _; omega
        have HN1 := Lib.hid (show actsF l (acts.take (k + 1)) = stepF (actsF l (acts.take k)) x from by rw [hnext, actsF_snoc])
        have HN2 := Lib.hid (show actsF m (acts.take (k + 1)) = stepF (actsF m (acts.take k)) x from by rw [hnext, actsF_snoc])
        have hll : (actsF l (acts.take k)).length < 1000000 := by
          have h1 := acts_len (acts.take k) l
          have h2 : (acts.take k).length ≤ 40 := by rw [List.length_take]; omega
          omega
        have hml : (actsF m (acts.take k)).length ≤ 1000000 := by
          have h1 := acts_len (acts.take k) m
          have h2 : (acts.take k).length ≤ 40 := by rw [List.length_take]; omega
          omega
        obtain ⟨K, hK⟩ : ∃ K, keyOf x.key = K := ⟨_, rfl⟩
        have hKp : pathC (pickN x.key 9) = keyP K := by rw [← hK]; rfl
        rw [hK] at HKey hks
        obtain ⟨r, hr⟩ : ∃ r, pickN x.what 5 = r := ⟨_, rfl⟩
        rw [hr] at HPk
        have hlk := Lib.hid hlt
        have HX := Lib.hid hx
        obtain ⟨L1, eL1⟩ : ∃ L1, actsF l (acts.take k) = L1 := ⟨_, rfl⟩
        obtain ⟨M1, eM1⟩ : ∃ M1, actsF m (acts.take k) = M1 := ⟨_, rfl⟩
        rw [eL1, eM1] at S1
        rw [eL1] at HN1 hll
        rw [eM1] at HN2 hml
        clear hx hnext hlt hK eL1 eM1
        go_wp2_with fail
        refine (HKey.out wr).mono ?_
        rintro e w1 ⟨rfl, h1⟩
        have S2 := Lib.hid (S1.out.keep HR.out h1)
        have HTu2 := Lib.hid (HTu.out.trans (HWf.out.or HWg.out) (Turned.of_below (F := fun k => F1 k ∨ G1 k) h1))
        have hz1 := h1.size
        clear c0 c1 c2 h1
        obtain ⟨_, _, e2, c0, c1, c2⟩ := HA.out.at_ S2.out.below hlk.out
        injection e2 with e2
        injection e2 with e2a e2b
        subst e2a; subst e2b
        rw [HX.out] at c0 c1 c2
        by_cases hr4 : r < 4
        · have hr4i : (r : Int) < 4 := by omega
          have HSt1 := Lib.hid (show stepF L1 x = setF L1 (keyP K) x.value from by unfold stepF; rw [hr, if_pos hr4, hKp])
          have HSt2 := Lib.hid (show stepF M1 x = setF M1 (keyP K) x.value from by unfold stepF; rw [hr, if_pos hr4, hKp])
          clear hr hKp hr4
          go_wp2_with fail
          refine (HPk.out w1).mono ?_
          rintro e w2 ⟨rfl, rfl⟩
          go_wp2_with fail
          refine (HR.out.set w1 F1 g L1 K x.value S2.out.t hks hxv hll (HT.out.1.below S2.out.below HT.out.1.lt)).mono ?_
          rintro e w3 ⟨F3, rfl, t3, u3, n3⟩
          have S3 := Lib.hid (S2.out.first t3 u3 n3)
          have HTu3 := Lib.hid (HTu2.out.trans (HWf.out.or HWg.out) (Turned.orl (G := G1) u3))
          have HWf3 := Lib.hid (HWf.out.trans HTu2.out.size n3)
          clear t3 u3 n3 c0 c1 c2
          obtain ⟨_, _, e3, c0, c1, c2⟩ := HA.out.at_ S3.out.below hlk.out
          injection e3 with e3
          injection e3 with e3a e3b
          subst e3a; subst e3b
          rw [HX.out] at c0 c1 c2
          go_wp2_with fail
          refine (qset_any w3 G1 h M1 K x.value S3.out.u hks hxv hml (HT.out.2.below S3.out.below)).mono ?_
          rintro e w4 ⟨G4, rfl, t4, u4, n4⟩
          have S4 := Lib.hid (S3.out.second HR.out t4 u4 n4)
          have HTu4 := Lib.hid (HTu3.out.trans (HWf3.out.or HWg.out) (Turned.orr (F := F3) u4))
          have HWg4 := Lib.hid (HWg.out.trans HTu3.out.size n4)
          clear t4 u4 n4 c0 c1 c2
          go_wp2_with fail
          go_roundw
          case rel => exact ⟨k + 1, F3, G4, hlk.out, by omega, by go_num, by rw [HN1.out, HN2.out, HSt1.out, HSt2.out]; exact S4.out, HTu4.out, HWf3.out, HWg4.out⟩
          case measure => simp [intOf]; omega
        · have hr4i : ¬ (r : Int) < 4 := by omega
          have HSt1 := Lib.hid (show stepF L1 x = delF L1 (keyP K) from by unfold stepF; rw [hr, if_neg hr4, hKp])
          have HSt2 := Lib.hid (show stepF M1 x = delF M1 (keyP K) from by unfold stepF; rw [hr, if_neg hr4, hKp])
          clear hr hKp hr4
          go_wp2_with fail
          refine (HPk.out w1).mono ?_
          rintro e w2 ⟨rfl, rfl⟩
          go_wp2_with fail
          refine (HR.out.delete w1 F1 g L1 K S2.out.t hks (HT.out.1.below S2.out.below HT.out.1.lt)).mono ?_
          rintro e w3 ⟨F3, rfl, t3, u3, n3⟩
          have S3 := Lib.hid (S2.out.first t3 u3 n3)
          have HTu3 := Lib.hid (HTu2.out.trans (HWf.out.or HWg.out) (Turned.orl (G := G1) u3))
          have HWf3 := Lib.hid (HWf.out.trans HTu2.out.size n3)
          clear t3 u3 n3 c0 c1 c2
          go_wp2_with fail
          refine (qdelete_any w3 G1 h M1 K S3.out.u hks hml (HT.out.2.below S3.out.below)).mono ?_
          rintro e w4 ⟨G4, rfl, t4, u4, n4⟩
          have S4 := Lib.hid (S3.out.second HR.out t4 u4 n4)
          have HTu4 := Lib.hid (HTu3.out.trans (HWf3.out.or HWg.out) (Turned.orr (F := F3) u4))
          have HWg4 := Lib.hid (HWg.out.trans HTu3.out.size n4)
          clear t4 u4 n4
          go_wp2_with fail
          go_roundw
          case rel => exact ⟨k + 1, F3, G4, hlk.out, by omega, by go_num, by rw [HN1.out, HN2.out, HSt1.out, HSt2.out]; exact S4.out, HTu4.out, HWf3.out, HWg4.out⟩
          case measure => simp [intOf]; omega
      · have h40i : ¬ (k : Int) < 40 := by omega
        obtain rfl : k = 40 := by omega
        go_wp2_with fail
        go_end0
        exact ⟨F1, G1, rfl, S1.out, HTu.out, HWf.out, HWg.out⟩
    · have hki : ¬ (k : Int) < (n : Int) := by omega
      obtain rfl : k = n := by omega
      have e1 : acts.take k = acts.take 40 := by
        rw [List.take_of_length_le (by omega), List.take_of_length_le (by omega)]
      rw [e1] at S1
      go_wp2_with fail
      go_end0
      exact ⟨F1, G1, rfl, S1.out, HTu.out, HWf.out, HWg.out⟩
end Go.Proofs.YtnkkckmejjcfkaaGreatDoor.Sp
