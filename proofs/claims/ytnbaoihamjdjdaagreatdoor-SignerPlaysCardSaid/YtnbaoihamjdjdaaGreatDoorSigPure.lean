/- Plain signers over texts: public keys, signatures, which signature is valid, and what follows. No program is named here. -/
import Derived.Test.YtnbaoihamjdjdaaGreatDoorWotFast
import Derived.Test.YtnbaoihamjdjdaaGreatDoorTreB
namespace Go.Proofs.YtnbaoihamjdjdaaGreatDoor.Sp
open Go
set_option maxRecDepth 100000

/-- A text behind its length. -/
def textL (s : ByteArray) : List UInt8 := be 4 s.size ++ s.data.toList
/-- The leaves of a signer. -/
def leavesB (seed : ByteArray) (h : Nat) : List ByteArray := (List.range (2 ^ h)).map fun (i : Nat) => publicB seed (i : Int)
def topB (seed : ByteArray) (h : Nat) : ByteArray := (upB h (leavesB seed h)).getD 0 .empty
/-- Its public key. -/
def keyB (seed : ByteArray) (h : Nat) : ByteArray := ⟨(be 8 h).toArray⟩ ++ topB seed h
/-- Its signature by a leaf. -/
def sigL (seed : ByteArray) (h i : Nat) (msg : ByteArray) : List UInt8 := be 8 i ++ (textL (signB seed (i : Int) msg) ++ (pathUp h (leavesB seed h) i).flatMap textL)
def sigB (seed : ByteArray) (h i : Nat) (msg : ByteArray) : ByteArray := ⟨(sigL seed h i msg).toArray⟩
/-- Does a text consist of these parts? -/
structure Parts (sig : List UInt8) (h i : Nat) (s : ByteArray) (p : List ByteArray) : Prop where
  lt : i < 2 ^ h
  size : s.size = 160
  len : p.length = h
  each : ∀ y ∈ p, y.size = 32
  eq : sig = be 8 i ++ (textL s ++ p.flatMap textL)
/-- Is a signature valid? -/
def Valid (pub msg sig : ByteArray) : Prop := ∃ (h i : Nat) (s : ByteArray) (p : List ByteArray), h ≤ 7 ∧ pub.size = 40 ∧ pub.data.toList.take 8 = be 8 h ∧ Parts sig.data.toList h i s p ∧ climbB (fromB s msg) i p = pub.extract 8 40
noncomputable def verB (pub msg sig : ByteArray) : Bool := @decide (Valid pub msg sig) (Classical.propDecidable _)
theorem verB_yes {pub msg sig : ByteArray} (h : Valid pub msg sig) : verB pub msg sig = true := @decide_eq_true _ (Classical.propDecidable _) h
theorem verB_no {pub msg sig : ByteArray} (h : ¬ Valid pub msg sig) : verB pub msg sig = false := @decide_eq_false _ (Classical.propDecidable _) h

theorem textL_len (s : ByteArray) : (textL s).length = 4 + s.size := by unfold textL; rw [List.length_append, be_length, size_list]
theorem flat_len : ∀ (p : List ByteArray), (∀ y ∈ p, y.size = 32) → (p.flatMap textL).length = 36 * p.length
  | [], _ => rfl
  | x :: p, h => by
    rw [List.flatMap_cons, List.length_append, textL_len, h x (List.mem_cons_self ..), flat_len p (fun y hy => h y (List.mem_cons_of_mem _ hy)), List.length_cons]
    omega
theorem text_inj (s t : ByteArray) (R Q : List UInt8) (hs : s.size < 4294967296) (ht : t.size < 4294967296) (h : textL s ++ R = textL t ++ Q) : s = t ∧ R = Q := by
  unfold textL at h
  rw [List.append_assoc, List.append_assoc] at h
  obtain ⟨h1, h2⟩ := List.append_inj h (by rw [be_length, be_length])
  have e := be_inj (k := 4) (by simpa using hs) (by simpa using ht) h1
  obtain ⟨h3, h4⟩ := List.append_inj h2 (by rw [size_list, size_list, e])
  exact ⟨list_inj h3, h4⟩
theorem texts_inj : ∀ (p q : List ByteArray), p.length = q.length → (∀ y ∈ p, y.size = 32) → (∀ y ∈ q, y.size = 32) → p.flatMap textL = q.flatMap textL → p = q
  | [], [], _, _, _, _ => rfl
  | [], _ :: _, h, _, _, _ => by simp at h
  | _ :: _, [], h, _, _, _ => by simp at h
  | x :: p, y :: q, h, h1, h2, e => by
    rw [List.flatMap_cons, List.flatMap_cons] at e
    obtain ⟨e1, e2⟩ := text_inj x y _ _ (by rw [h1 x (List.mem_cons_self ..)]; omega) (by rw [h2 y (List.mem_cons_self ..)]; omega) e
    rw [e1, texts_inj p q (by simpa using h) (fun z hz => h1 z (List.mem_cons_of_mem _ hz)) (fun z hz => h2 z (List.mem_cons_of_mem _ hz)) e2]
theorem two_le (h : Nat) (h7 : h ≤ 7) : 2 ^ h ≤ 128 := Nat.le_trans (Nat.pow_le_pow_right (by omega) h7) (by decide)
theorem Parts.inj {sig : List UInt8} {h i j : Nat} {s t : ByteArray} {p q : List ByteArray} (h7 : h ≤ 7) (a : Parts sig h i s p) (b : Parts sig h j t q) : i = j ∧ s = t ∧ p = q := by
  have e := a.eq.symm.trans b.eq
  obtain ⟨h1, h2⟩ := List.append_inj e (by rw [be_length, be_length])
  have := two_le h h7
  have la := a.lt
  have lb := b.lt
  obtain ⟨h3, h4⟩ := text_inj s t _ _ (by rw [a.size]; omega) (by rw [b.size]; omega) h2
  exact ⟨be_inj (k := 8) (Nat.lt_trans (show i < 128 by omega) (by decide)) (Nat.lt_trans (show j < 128 by omega) (by decide)) h1, h3, texts_inj p q (by rw [a.len, b.len]) a.each b.each h4⟩
theorem Parts.length {sig : List UInt8} {h i : Nat} {s : ByteArray} {p : List ByteArray} (a : Parts sig h i s p) : sig.length = 172 + 36 * h := by
  rw [a.eq, List.length_append, be_length, List.length_append, textL_len, a.size, flat_len p a.each, a.len]
  omega

theorem publicB_32 (seed : ByteArray) (l : Int) : (publicB seed l).size = 32 := by rw [← size_list]; exact sum_length _
theorem leaves_len (seed : ByteArray) (h : Nat) : (leavesB seed h).length = 2 ^ h := by simp [leavesB]
theorem leaves_get (seed : ByteArray) (h i : Nat) (hi : i < 2 ^ h) : (leavesB seed h).getD i .empty = publicB seed (i : Int) := by
  rw [List.getD_eq_getElem?_getD, List.getElem?_eq_getElem (by rw [leaves_len]; exact hi)]
  simp [leavesB]
theorem leaves_size (seed : ByteArray) (h : Nat) : ∀ y ∈ leavesB seed h, y.size = 32 := by
  intro y hy
  simp only [leavesB, List.mem_map] at hy
  obtain ⟨i, _, rfl⟩ := hy
  exact publicB_32 _ _
theorem path_size : ∀ (h : Nat) (l : List ByteArray) (i : Nat), l.length = 2 ^ h → i < l.length → (∀ y ∈ l, y.size = 32) → ∀ y ∈ pathUp h l i, y.size = 32
  | 0, _, _, _, _, _, y, hy => by simp [pathUp] at hy
  | h + 1, l, i, hl, hi, hs, y, hy => by
    obtain ⟨h1, h2⟩ := pow_half _ _ hl
    rw [pathUp, List.mem_cons] at hy
    rcases hy with rfl | hy
    · exact hs _ (getD_mem_ l _ (pair_of l i hi h1).2.2)
    · exact path_size h (aboveB l) (i / 2) (by rw [above_len, h2]) (by rw [above_len]; omega) (above_size l) y hy
theorem up_size : ∀ (h : Nat) (l : List ByteArray), (∀ y ∈ l, y.size = 32) → ∀ y ∈ upB h l, y.size = 32
  | 0, _, hs => hs
  | h + 1, l, _ => up_size h (aboveB l) (above_size l)
theorem topB_size (seed : ByteArray) (h : Nat) : (topB seed h).size = 32 := by
  refine up_size h (leavesB seed h) (leaves_size seed h) _ (getD_mem_ _ 0 ?_)
  rw [up_len h _ (leaves_len seed h)]
  omega
theorem key_size (seed : ByteArray) (h : Nat) : (keyB seed h).size = 40 := by
  unfold keyB
  rw [ByteArray.size_append, topB_size]
  show (be 8 h).toArray.size + 32 = 40
  rw [List.size_toArray, be_length]
theorem key_list (seed : ByteArray) (h : Nat) : (keyB seed h).data.toList = be 8 h ++ (topB seed h).data.toList := by
  unfold keyB
  rw [Go.Joins.data_append]
theorem key_head (seed : ByteArray) (h : Nat) : (keyB seed h).data.toList.take 8 = be 8 h := by rw [key_list, List.take_left' (be_length 8 h)]
theorem key_tail (seed : ByteArray) (h : Nat) : (keyB seed h).extract 8 40 = topB seed h := by
  apply list_inj
  rw [extract_list, List.take_of_length_le (l := (keyB seed h).data.toList) (by rw [size_list, key_size]; omega), key_list, List.drop_left' (be_length 8 h)]
theorem root_leaves (seed : ByteArray) (h : Nat) (h7 : h ≤ 7) : rootB (leavesB seed h) = topB seed h := root_pow _ h h7 (leaves_len seed h)
theorem path_leaves (seed : ByteArray) (h i : Nat) (h7 : h ≤ 7) (hi : i < 2 ^ h) : pathB (leavesB seed h) (i : Int) = pathUp h (leavesB seed h) i := path_pow _ h i h7 (leaves_len seed h) (by rw [leaves_len]; exact hi)
theorem sig_list (seed : ByteArray) (h i : Nat) (msg : ByteArray) : (sigB seed h i msg).data.toList = sigL seed h i msg := rfl
theorem sign_parts (seed : ByteArray) (h i : Nat) (msg : ByteArray) (hi : i < 2 ^ h) : Parts (sigL seed h i msg) h i (signB seed (i : Int) msg) (pathUp h (leavesB seed h) i) where
  lt := hi
  size := sign_size _ _ _
  len := path_len h _ i
  each := path_size h _ i (leaves_len seed h) (by rw [leaves_len]; exact hi) (leaves_size seed h)
  eq := rfl
theorem sig_size (seed : ByteArray) (h i : Nat) (msg : ByteArray) (hi : i < 2 ^ h) : (sigB seed h i msg).size = 172 + 36 * h := by
  rw [← size_list, sig_list]; exact (sign_parts seed h i msg hi).length
/-- What was signed is valid. -/
theorem valid_sign (seed : ByteArray) (h i : Nat) (msg : ByteArray) (h7 : h ≤ 7) (hi : i < 2 ^ h) : Valid (keyB seed h) msg (sigB seed h i msg) := by
  refine ⟨h, i, _, _, h7, key_size seed h, key_head seed h, sign_parts seed h i msg hi, ?_⟩
  rw [from_sign, key_tail, ← leaves_get seed h i hi]
  exact climb_path h _ i (leaves_len seed h) (by rw [leaves_len]; exact hi)
/-- What is valid by a signer's public key consists of so many parts as its tree is high. -/
theorem valid_parts (seed : ByteArray) (h : Nat) (h7 : h ≤ 7) (msg sig : ByteArray) (v : Valid (keyB seed h) msg sig) : ∃ i s p, Parts sig.data.toList h i s p ∧ climbB (fromB s msg) i p = topB seed h := by
  obtain ⟨k, i, s, p, k7, _, e, hp, hc⟩ := v
  rw [key_head] at e
  have ek : h = k := be_inj (k := 8) (Nat.lt_of_le_of_lt h7 (by decide)) (Nat.lt_of_le_of_lt k7 (by decide)) e
  subst ek
  rw [key_tail] at hc
  exact ⟨i, s, p, hp, hc⟩
theorem valid_size (seed : ByteArray) (h : Nat) (h7 : h ≤ 7) (msg sig : ByteArray) (v : Valid (keyB seed h) msg sig) : sig.size = 172 + 36 * h := by
  obtain ⟨i, s, p, hp, _⟩ := valid_parts seed h h7 msg sig v
  rw [← size_list]; exact hp.length
theorem valid_pub (pub msg sig : ByteArray) (v : Valid pub msg sig) : pub.size = 40 := by
  obtain ⟨_, _, _, _, _, h, _⟩ := v
  exact h
/-- The head of a signature tells the leaf. -/
theorem sig_head (seed : ByteArray) (h i : Nat) (msg : ByteArray) : ((sigB seed h i msg).extract 0 8).data.toList = be 8 i := by
  rw [extract_list, List.drop_zero, sig_list]
  unfold sigL
  rw [List.take_left' (be_length 8 i)]
theorem head_ne (seed : ByteArray) (h i j : Nat) (m n : ByteArray) (hi : i < 256) (hj : j < 256) (hne : i ≠ j) : (sigB seed h i m).extract 0 8 ≠ (sigB seed h j n).extract 0 8 := by
  intro e
  have h1 := congrArg (fun t : ByteArray => t.data.toList) e
  simp only [sig_head] at h1
  exact hne (be_inj (k := 8) (Nat.lt_trans hi (by decide)) (Nat.lt_trans hj (by decide)) h1)
/-- The example's alien signature is not valid. -/
theorem alien_no : ¬ Valid (keyB ⟨#[115]⟩ 1) ⟨#[110]⟩ (sigB ⟨#[115]⟩ 1 0 ⟨#[109]⟩) := by
  intro v
  obtain ⟨i, s, p, hp, hc⟩ := valid_parts _ 1 (by omega) _ _ v
  obtain ⟨rfl, rfl, rfl⟩ := (sign_parts ⟨#[115]⟩ 1 0 ⟨#[109]⟩ (by decide)).inj (by omega) hp
  refine alien ?_
  have e0 := leaves_get ⟨#[115]⟩ 1 0 (by decide)
  have e1 := leaves_get ⟨#[115]⟩ 1 1 (by decide)
  have et : topB ⟨#[115]⟩ 1 = nodeB (publicB ⟨#[115]⟩ 0) (publicB ⟨#[115]⟩ 1) := rfl
  rw [et] at hc
  have ep : pathUp 1 (leavesB ⟨#[115]⟩ 1) 0 = [publicB ⟨#[115]⟩ 1] := rfl
  rw [ep] at hc
  exact hc
end Go.Proofs.YtnbaoihamjdjdaaGreatDoor.Sp
