/- Which signatures are valid, by what has been read of them. No program is named here. -/
import Derived.Test.YtnbaoihamjdjdaaGreatDoorSigPure
import Derived.Test.YtnbaoihamjdjdaaGreatDoorCodAt
namespace Go.Proofs.YtnbaoihamjdjdaaGreatDoor.Sp
open Go
set_option maxRecDepth 100000

theorem rest_split : ∀ (P q : List ByteArray) (X : List UInt8), P.length ≤ q.length → (∀ y ∈ P, y.size = 32) → (∀ y ∈ q, y.size = 32) → P.flatMap textL ++ X = q.flatMap textL → P = q.take P.length ∧ X = (q.drop P.length).flatMap textL
  | [], q, X, _, _, _, e => ⟨rfl, e⟩
  | _ :: _, [], _, h, _, _, _ => by simp at h
  | x :: P, y :: q, X, h, h1, h2, e => by
    rw [List.flatMap_cons, List.flatMap_cons, List.append_assoc] at e
    obtain ⟨e1, e2⟩ := text_inj x y _ _ (by rw [h1 x (List.mem_cons_self ..)]; omega) (by rw [h2 y (List.mem_cons_self ..)]; omega) e
    obtain ⟨e3, e4⟩ := rest_split P q X (by simpa using h) (fun z hz => h1 z (List.mem_cons_of_mem _ hz)) (fun z hz => h2 z (List.mem_cons_of_mem _ hz)) e2
    exact ⟨by rw [e1, List.length_cons, List.take_succ_cons, ← e3], by rw [e4]; rfl⟩

/-- What has been read of a signature: a number, a text, some texts of 32 bytes; what is left. -/
structure Got (sig : ByteArray) (i : Nat) (s : ByteArray) (P : List ByteArray) (X : ByteArray) : Prop where
  eq : sig.data.toList = be 8 i ++ (textL s ++ (P.flatMap textL ++ X.data.toList))
  small : i < 18446744073709551616
  short : s.size < 4294967296
  each : ∀ y ∈ P, y.size = 32
theorem Got.parts {sig : ByteArray} {i : Nat} {s : ByteArray} {P : List ByteArray} {X : ByteArray} (g : Got sig i s P X) {h j : Nat} {t : ByteArray} {q : List ByteArray} (h7 : h ≤ 7) (p : Parts sig.data.toList h j t q) (hP : P.length ≤ h) :
    i = j ∧ s = t ∧ P = q.take P.length ∧ X.data.toList = (q.drop P.length).flatMap textL := by
  have e := g.eq.symm.trans p.eq
  have h128 := two_le h h7
  have hlt := p.lt
  obtain ⟨e1, e2⟩ := List.append_inj e (by rw [be_length, be_length])
  obtain ⟨e3, e4⟩ := text_inj s t _ _ g.short (by rw [p.size]; omega) e2
  obtain ⟨e5, e6⟩ := rest_split P q _ (by rw [p.len]; exact hP) g.each p.each e4
  exact ⟨be_inj (k := 8) (by have := g.small; simpa using this) (Nat.lt_trans (show j < 128 by omega) (by decide)) e1, e3, e5, e6⟩
theorem Got.no_text {sig : ByteArray} {i : Nat} {s : ByteArray} {P : List ByteArray} {X : ByteArray} (g : Got sig i s P X) {h : Nat} (h7 : h ≤ 7) (hP : P.length < h) (hn : ¬ (rtOk X 32 ∧ (rtT X 32).size = 32)) : ∀ j t q, ¬ Parts sig.data.toList h j t q := by
  intro j t q p
  obtain ⟨_, _, _, e⟩ := g.parts h7 p (by omega)
  have hq : P.length < q.length := by rw [p.len]; exact hP
  rw [List.drop_eq_getElem_cons hq, List.flatMap_cons] at e
  have hy := p.each _ (List.getElem_mem hq)
  obtain ⟨r1, _, r3⟩ := rt_at X q[P.length] _ 32 (by rw [hy]; omega) (by rw [hy]; decide) e false
  refine hn ⟨?_, by rw [r1]; exact hy⟩
  by_cases h1 : rtOk X 32
  · exact h1
  · rw [rtB, if_neg h1] at r3
    cases r3
theorem Got.no_end {sig : ByteArray} {i : Nat} {s : ByteArray} {P : List ByteArray} {X : ByteArray} (g : Got sig i s P X) {h : Nat} (h7 : h ≤ 7) (hP : P.length = h) (hn : ¬ X.size = 0) : ∀ j t q, ¬ Parts sig.data.toList h j t q := by
  intro j t q p
  obtain ⟨_, _, _, e⟩ := g.parts h7 p (by omega)
  rw [List.drop_of_length_le (by rw [p.len]; omega)] at e
  apply hn
  rw [← size_list, e]
  rfl
theorem Got.no_num {sig : ByteArray} {i : Nat} {s : ByteArray} {P : List ByteArray} {X : ByteArray} (g : Got sig i s P X) {h : Nat} (h7 : h ≤ 7) (hP : P.length = h) (hn : ¬ i < 2 ^ h) : ∀ j t q, ¬ Parts sig.data.toList h j t q := by
  intro j t q p
  obtain ⟨e, _⟩ := g.parts h7 p (by omega)
  exact hn (by rw [e]; exact p.lt)
theorem Got.no_sig {sig : ByteArray} {i : Nat} {s : ByteArray} {P : List ByteArray} {X : ByteArray} (g : Got sig i s P X) {h : Nat} (h7 : h ≤ 7) (hP : P.length = h) (hn : ¬ s.size = 160) : ∀ j t q, ¬ Parts sig.data.toList h j t q := by
  intro j t q p
  obtain ⟨_, e, _⟩ := g.parts h7 p (by omega)
  exact hn (by rw [e]; exact p.size)
theorem Got.yes {sig : ByteArray} {i : Nat} {s : ByteArray} {P : List ByteArray} {X : ByteArray} (g : Got sig i s P X) {h : Nat} (hP : P.length = h) (hX : X.size = 0) (hi : i < 2 ^ h) (hs : s.size = 160) : Parts sig.data.toList h i s P where
  lt := hi
  size := hs
  len := hP
  each := g.each
  eq := by
    have : X.data.toList = [] := List.eq_nil_of_length_eq_zero (by rw [size_list]; exact hX)
    rw [g.eq, this, List.append_nil]
theorem Got.step {sig : ByteArray} {i : Nat} {s : ByteArray} {P : List ByteArray} {X : ByteArray} (g : Got sig i s P X) (hok : rtOk X 32) (hz : (rtT X 32).size = 32) : Got sig i s (P ++ [rtT X 32]) (rtS X 32) where
  eq := by
    obtain ⟨e, _, _⟩ := rt_ok X 32 hok false
    rw [g.eq, List.flatMap_append, ← e]
    simp [textL]
  small := g.small
  short := g.short
  each := fun y hy => by
    rcases List.mem_append.1 hy with hy | hy
    · exact g.each y hy
    · rw [List.mem_singleton.1 hy]; exact hz
/-- The head of a signature. -/
theorem got_head (sig S1 : ByteArray) (I : Nat) (h8 : sig.data.toList = be 8 I ++ S1.data.toList) (hI : I < 18446744073709551616) (hok : rtOk S1 160) : Got sig I (rtT S1 160) [] (rtS S1 160) where
  eq := by
    obtain ⟨e, _, _⟩ := rt_ok S1 160 hok false
    rw [h8, ← e]
    rfl
  small := hI
  short := by
    obtain ⟨_, _, e⟩ := rt_ok S1 160 hok false
    rw [e]; exact rtN_lt S1
  each := fun y hy => by cases hy
theorem no_head (sig S1 : ByteArray) (I h : Nat) (h8 : sig.data.toList = be 8 I ++ S1.data.toList) (hno : ¬ rtOk S1 160) : ∀ j t q, ¬ Parts sig.data.toList h j t q := by
  intro j t q p
  have e := h8.symm.trans p.eq
  obtain ⟨_, e2⟩ := List.append_inj e (by rw [be_length, be_length])
  obtain ⟨_, _, r3⟩ := rt_at S1 t _ 160 (by rw [p.size]; omega) (by rw [p.size]; decide) e2 false
  apply hno
  by_cases h1 : rtOk S1 160
  · exact h1
  · rw [rtB, if_neg h1] at r3
    cases r3
theorem no_short (sig : ByteArray) (h : Nat) (hs : sig.size < 8) : ∀ j t q, ¬ Parts sig.data.toList h j t q := by
  intro j t q p
  have := p.length
  rw [size_list] at this
  omega
/-- Where there are no such parts, nothing is valid. -/
theorem not_valid (p msg sig : ByteArray) (h : Nat) (h7 : h ≤ 7) (hp : p.data.toList.take 8 = be 8 h) (hno : ∀ j t q, ¬ Parts sig.data.toList h j t q) : ¬ Valid p msg sig := by
  rintro ⟨k, i, s, q, k7, _, e, hq, _⟩
  rw [hp] at e
  have ek : h = k := be_inj (k := 8) (Nat.lt_of_le_of_lt h7 (by decide)) (Nat.lt_of_le_of_lt k7 (by decide)) e
  subst ek
  exact hno _ _ _ hq
theorem not_high (p msg sig : ByteArray) (H : Nat) (hH : num (p.data.toList.take 8) = H) (h7 : 7 < H) : ¬ Valid p msg sig := by
  rintro ⟨k, i, s, q, k7, _, e, hq, _⟩
  rw [e, num_be, p8, Nat.mod_eq_of_lt (by omega)] at hH
  omega
theorem valid_iff (p msg sig : ByteArray) (h i : Nat) (s : ByteArray) (q : List ByteArray) (h7 : h ≤ 7) (h40 : p.size = 40) (hp : p.data.toList.take 8 = be 8 h) (hq : Parts sig.data.toList h i s q) : Valid p msg sig ↔ climbB (fromB s msg) i q = p.extract 8 40 := by
  constructor
  · rintro ⟨k, i', s', q', k7, _, e, hq', hc⟩
    rw [hp] at e
    have ek : h = k := be_inj (k := 8) (Nat.lt_of_le_of_lt h7 (by decide)) (Nat.lt_of_le_of_lt k7 (by decide)) e
    subst ek
    obtain ⟨rfl, rfl, rfl⟩ := hq.inj h7 hq'
    exact hc
  · exact fun hc => ⟨h, i, s, q, h7, h40, hp, hq, hc⟩
end Go.Proofs.YtnbaoihamjdjdaaGreatDoor.Sp
