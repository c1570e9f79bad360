/- Plain one-time signatures over texts: what the contracts of package wots and of the document's own answer come to. -/
import Derived.Test.YtnbaoihamjdjdaaGreatDoorShaPb
import Derived.Test.YtnbaoihamjdjdaaGreatDoorCodPure
import Derived.Test.YtnbaoihamjdjdaaGreatDoorReads
import Derived.Deep.AppendLies
import Derived.Lib.SmallJoins
import Derived.Test.YtnbaoihamjdjdaaGreatDoorCodWn
namespace Go.Proofs.YtnbaoihamjdjdaaGreatDoor.Sp
open Go
set_option maxRecDepth 100000

/-- The encoding of a number. -/
def encN (n : Int) : Nat := if n < 0 ∨ 4294967296 < n then 0 else n.toNat
def numB (n : Int) : ByteArray := ⟨(be 8 (encN n)).toArray⟩
/-- The value of a Tag. -/
def cut16 (l : List UInt8) : ByteArray := ⟨(l.take 16).toArray⟩
def stepB (c i : Int) (v : ByteArray) : ByteArray := cut16 (sum (inB 2 [numB c, numB i, v]))
/-- So many steps on from a place. -/
def goB (c i : Int) : Nat → ByteArray → ByteArray
  | 0, v => v
  | n + 1, v => stepB c (i + n) (goB c i n v)
def walkB (c i j : Int) (v : ByteArray) : ByteArray := if i < 0 ∨ 15 < j then v else goB c i (j - i).toNat v
def secretB (seed : ByteArray) (leaf c : Int) : ByteArray := cut16 (sum (inB 3 [seed, numB leaf, numB c]))
def hexOf (l : List UInt8) : List Nat := l.flatMap fun b => [b.toNat / 16, b.toNat % 16]
def lacks (l : List Nat) : Nat := (l.map fun d => 15 - d).sum
def digitsN (msg : ByteArray) : List Nat :=
  let h := hexOf ((sum (inB 1 [msg])).take 4)
  h ++ [lacks h / 16, lacks h % 16]
def publicB (seed : ByteArray) (leaf : Int) : ByteArray := ⟨(sum (inB 4 ((List.range 10).map fun (c : Nat) => walkB (c : Int) 0 15 (secretB seed leaf c)))).toArray⟩
def signUpto (seed : ByteArray) (leaf : Int) (msg : ByteArray) : Nat → ByteArray
  | 0 => .empty
  | c + 1 => signUpto seed leaf msg c ++ walkB (c : Int) 0 ((digitsN msg).getD c 0 : Nat) (secretB seed leaf (c : Int))
def signB (seed : ByteArray) (leaf : Int) (msg : ByteArray) : ByteArray := signUpto seed leaf msg 10
def fromB (sig msg : ByteArray) : ByteArray :=
  if sig.size = 160 then ⟨(sum (inB 4 ((List.range 10).map fun (c : Nat) => walkB (c : Int) ((digitsN msg).getD c 0 : Nat) 15 (sig.extract (16 * c) (16 * c + 16))))).toArray⟩ else .empty

theorem sum_length (l : List UInt8) : (sum l).length = 32 := encode_length _
theorem cut16_size (l : List UInt8) (h : l.length = 32) : (cut16 l).size = 16 := by
  show (l.take 16).toArray.size = 16
  simp [h]
theorem stepB_size (c i : Int) (v : ByteArray) : (stepB c i v).size = 16 := cut16_size _ (sum_length _)
theorem secretB_size (seed : ByteArray) (leaf c : Int) : (secretB seed leaf c).size = 16 := cut16_size _ (sum_length _)
theorem numB_size (n : Int) : (numB n).size = 8 := by
  show (be 8 (encN n)).toArray.size = 8
  rw [List.size_toArray]; rfl
theorem goB_size (c i : Int) (n : Nat) (v : ByteArray) (h : v.size = 16) : (goB c i n v).size = 16 := by
  cases n with
  | zero => exact h
  | succ n => exact stepB_size _ _ _
theorem goB_le (c i : Int) (n : Nat) (v : ByteArray) (m : Nat) (h : v.size ≤ m) (hm : 16 ≤ m) : (goB c i n v).size ≤ m := by
  cases n with
  | zero => exact h
  | succ n => show (stepB _ _ _).size ≤ m; rw [stepB_size]; exact hm
theorem walkB_size (c i j : Int) (v : ByteArray) (h : v.size = 16) : (walkB c i j v).size = 16 := by
  unfold walkB
  split
  · exact h
  · exact goB_size c i _ v h
theorem encN_lt (n : Int) : encN n < 18446744073709551616 := by
  unfold encN
  split <;> omega
theorem goB_add (c i : Int) (n m : Nat) (v : ByteArray) : goB c (i + n) m (goB c i n v) = goB c i (n + m) v := by
  induction m with
  | zero => rfl
  | succ m ih =>
    show stepB c (i + n + m) (goB c (i + n) m (goB c i n v)) = stepB c (i + ((n + m : Nat) : Int)) (goB c i (n + m) v)
    rw [ih]
    congr 1
    omega
end Go.Proofs.YtnbaoihamjdjdaaGreatDoor.Sp

/- Digits of a message as a slice of numbers; the ends of chains as a list of texts (of no program's text yet). -/
namespace Go.Proofs.YtnbaoihamjdjdaaGreatDoor.Sp
open Go Go.RowKit
set_option maxRecDepth 100000

def intV (d : Nat) : Value := .int .i64 (d : Int)
/-- A slice of ints of the call's own. -/
def OwnN (w : World) (base : Nat) (v : Value) (l : List Nat) : Prop := w.ownsRow base 3 1 v l.length (l.map intV)
theorem infoInt : (Tryz.prog.info? 3).map (fun i => (i.zero, i.size, i.bytes)) = some (some (.int .i64 0), 1, 8) := by kernel_rfl
/-- What owns ints reads as them. -/
theorem OwnN.cells_ {w : World} {base : Nat} {v : Value} {l : List Nat} (h : OwnN w base v l) : ∃ a c, v = .slice a l.length c ∧ Cells w a l.length (fun j => intV (l.getD j 0)) := by
  rcases h.2 with ⟨h1, h2⟩ | ⟨g, cap, cur, h1, _⟩
  · exact ⟨none, 0, by rw [h1, h2], fun hp => by omega⟩
  · refine ⟨_, _, h1, fun hp => ⟨g, 0, rfl, fun j hj => ?_⟩⟩
    have hc := World.ownsRow.cells h (g := g) (by rw [h1]; rfl) j (intV (l.getD j 0)) (by simp [List.getD, hj])
    rw [show (⟨g, 0, none⟩ : Addr).add j = ⟨g, 0 + j, none⟩ from by unfold Addr.add; split <;> simp_all] at hc
    exact hc
/-- What Digits hands back: ten ints. -/
def DigTo (msg : ByteArray) (w : World) (e : Ending) (w' : World) : Prop :=
  ∃ (a : Option Addr) (c : Nat), e = .returned (.slice a 10 c) ∧ Cells w' a 10 (fun j => intV ((digitsN msg).getD j 0)) ∧ Below w.heap.size w w'

theorem hexOf_snoc (l : List UInt8) (b : UInt8) : hexOf (l ++ [b]) = hexOf l ++ [b.toNat / 16, b.toNat % 16] := by simp [hexOf]
theorem hexOf_length (l : List UInt8) : (hexOf l).length = 2 * l.length := by
  induction l with
  | nil => rfl
  | cons x l ih => simp [hexOf, List.flatMap_cons] at ih ⊢; omega
theorem lacks_app (l m : List Nat) : lacks (l ++ m) = lacks l + lacks m := by simp [lacks]
theorem lacks_le (l : List Nat) : lacks l ≤ 15 * l.length := by
  induction l with
  | nil => simp [lacks]
  | cons x l ih => simp [lacks] at ih ⊢; omega

theorem len2_16 (l : List ByteArray) (h : ∀ x ∈ l, x.size = 16) : len2 l l.length = 1 + 20 * l.length := by
  unfold len2
  rw [List.take_length]
  induction l with
  | nil => rfl
  | cons x l ih =>
    have h1 := ih (fun y hy => h y (List.mem_cons_of_mem _ hy))
    have h2 := h x (List.mem_cons_self ..)
    simp only [List.map_cons, List.sum_cons, List.length_cons] at h1 ⊢
    omega

/-- The ends of the first k chains. -/
def endsTo (f : Nat → ByteArray) (k : Nat) : List ByteArray := (List.range k).map f
theorem endsTo_succ (f : Nat → ByteArray) (k : Nat) : endsTo f (k + 1) = endsTo f k ++ [f k] := by simp [endsTo, List.range_succ]
theorem endsTo_length (f : Nat → ByteArray) (k : Nat) : (endsTo f k).length = k := by simp [endsTo]
theorem endsTo_size (f : Nat → ByteArray) (hf : ∀ c, (f c).size = 16) (k : Nat) : ∀ x ∈ endsTo f k, x.size = 16 := by
  intro x hx
  simp only [endsTo, List.mem_map] at hx
  obtain ⟨c, _, rfl⟩ := hx
  exact hf c

theorem digits_le (msg : ByteArray) (j : Nat) : (digitsN msg).getD j 0 ≤ 15 := by
  have h : ∀ d ∈ digitsN msg, d ≤ 15 := by
    intro d hd
    unfold digitsN at hd
    simp only [List.mem_append, hexOf, List.mem_flatMap] at hd
    rcases hd with ⟨b, _, hb⟩ | hd
    · have := b.toNat_lt
      simp only [List.mem_cons, List.not_mem_nil, or_false] at hb
      rcases hb with rfl | rfl <;> omega
    · have h1 := lacks_le (hexOf ((sum (inB 1 [msg])).take 4))
      have h2 : (hexOf ((sum (inB 1 [msg])).take 4)).length ≤ 8 := by rw [hexOf_length, List.length_take]; omega
      simp only [hexOf] at h1 h2
      simp only [List.mem_cons, List.not_mem_nil, or_false] at hd
      rcases hd with rfl | rfl <;> omega
  rcases Nat.lt_or_ge j (digitsN msg).length with hj | hj
  · rw [List.getD_eq_getElem?_getD, List.getElem?_eq_getElem hj]
    exact h _ (List.getElem_mem hj)
  · rw [List.getD_eq_getElem?_getD, List.getElem?_eq_none hj]
    exact Nat.zero_le _
theorem signUpto_size (seed : ByteArray) (l : Int) (msg : ByteArray) (k : Nat) : (signUpto seed l msg k).size = 16 * k := by
  induction k with
  | zero => rfl
  | succ k ih => rw [signUpto, ByteArray.size_append, ih, walkB_size _ _ _ _ (secretB_size _ _ _)]; omega

end Go.Proofs.YtnbaoihamjdjdaaGreatDoor.Sp

/- What follows of the plain one-time signatures: walks join, a signature's pieces, digits that are unlike. -/
namespace Go.Proofs.YtnbaoihamjdjdaaGreatDoor.Sp
open Go
set_option maxRecDepth 100000

theorem walk_nat (c : Int) (a b : Nat) (v : ByteArray) (hb : b ≤ 15) : walkB c (a : Int) (b : Int) v = goB c (a : Int) (b - a) v := by
  unfold walkB
  rw [if_neg (by omega)]
  congr 1
  omega
theorem walk_on (c : Int) (a b d : Nat) (v : ByteArray) (h1 : a ≤ b) (h2 : b ≤ d) (h3 : d ≤ 15) : walkB c (b : Int) (d : Int) (walkB c (a : Int) (b : Int) v) = walkB c (a : Int) (d : Int) v := by
  rw [walk_nat c a b v (by omega), walk_nat c b d _ h3, walk_nat c a d v h3]
  have h := goB_add c (a : Int) (b - a) (d - b) v
  rw [show (a : Int) + ((b - a : Nat) : Int) = (b : Int) by omega, show b - a + (d - b) = d - a by omega] at h
  exact h
theorem walk_same (c : Int) (a : Nat) (v : ByteArray) (h : a ≤ 15) : walkB c (a : Int) (a : Int) v = v := by
  rw [walk_nat c a a v h, Nat.sub_self]; rfl

theorem digits_len (msg : ByteArray) : (digitsN msg).length = 10 := by
  unfold digitsN
  have h : (hexOf ((sum (inB 1 [msg])).take 4)).length = 8 := by rw [hexOf_length, List.length_take, sum_length]; rfl
  simp only [List.length_append, h, List.length_cons, List.length_nil]
theorem getD_le (l : List Nat) (m j : Nat) (h : ∀ d ∈ l, d ≤ m) : l.getD j 0 ≤ m := by
  rcases Nat.lt_or_ge j l.length with hj | hj
  · rw [List.getD_eq_getElem?_getD, List.getElem?_eq_getElem hj]
    exact h _ (List.getElem_mem hj)
  · rw [List.getD_eq_getElem?_getD, List.getElem?_eq_none hj]
    exact Nat.zero_le _
theorem hexOf_le (l : List UInt8) : ∀ d ∈ hexOf l, d ≤ 15 := by
  intro d hd
  simp only [hexOf, List.mem_flatMap] at hd
  obtain ⟨b, _, hb⟩ := hd
  have := b.toNat_lt
  simp only [List.mem_cons, List.not_mem_nil, or_false] at hb
  rcases hb with rfl | rfl <;> omega
theorem digits_15 (msg : ByteArray) (j : Nat) : (digitsN msg).getD j 0 ≤ 15 := by
  refine getD_le _ _ _ ?_
  intro d hd
  unfold digitsN at hd
  have h1 := lacks_le (hexOf ((sum (inB 1 [msg])).take 4))
  have h2 : (hexOf ((sum (inB 1 [msg])).take 4)).length = 8 := by rw [hexOf_length, List.length_take, sum_length]; rfl
  rw [h2] at h1
  rcases List.mem_append.1 hd with hd | hd
  · exact hexOf_le _ d hd
  · simp only [List.mem_cons, List.not_mem_nil, or_false] at hd
    rcases hd with rfl | rfl <;> omega
/-- The checksum: what eight digits lack is told by the last two. -/
theorem digits_check (msg : ByteArray) : lacks ((digitsN msg).take 8) = 16 * (digitsN msg).getD 8 0 + (digitsN msg).getD 9 0 := by
  unfold digitsN
  have h2 : (hexOf ((sum (inB 1 [msg])).take 4)).length = 8 := by rw [hexOf_length, List.length_take, sum_length]; rfl
  obtain ⟨H, hH⟩ : ∃ H, hexOf ((sum (inB 1 [msg])).take 4) = H := ⟨_, rfl⟩
  simp only [hH] at h2 ⊢
  rw [List.take_left' h2, List.getD_eq_getElem?_getD, List.getD_eq_getElem?_getD, List.getElem?_append_right (by omega), List.getElem?_append_right (by omega), h2]
  simp only [Nat.sub_self, List.getElem?_cons_zero, Option.getD_some, show 9 - 8 = 1 from rfl, List.getElem?_cons_succ]
  omega
theorem sum_mono : ∀ (l m : List Nat), l.length = m.length → (∀ j, l.getD j 0 ≤ m.getD j 0) → (∀ j, m.getD j 0 ≤ 15) → lacks m ≤ lacks l ∧ (lacks l = lacks m → l = m)
  | [], [], _, _, _ => ⟨Nat.le_refl _, fun _ => rfl⟩
  | [], _ :: _, h, _, _ => by simp at h
  | _ :: _, [], h, _, _ => by simp at h
  | x :: l, y :: m, h, h1, h2 => by
    obtain ⟨i1, i2⟩ := sum_mono l m (by simpa using h) (fun j => by simpa using h1 (j + 1)) (fun j => by simpa using h2 (j + 1))
    have a1 := h1 0
    have a2 := h2 0
    simp only [List.getD_cons_zero] at a1 a2
    simp only [lacks, List.map_cons, List.sum_cons] at i1 i2 ⊢
    refine ⟨by omega, fun e => ?_⟩
    have e1 : x = y := by omega
    rw [e1, i2 (by omega)]
/-- Of unlike digits one is lower. -/
theorem digits_lower (a b : ByteArray) (h : ∀ j, j < 10 → (digitsN b).getD j 0 ≤ (digitsN a).getD j 0) : digitsN a = digitsN b := by
  obtain ⟨D, hD⟩ : ∃ D, digitsN a = D := ⟨_, rfl⟩
  obtain ⟨E, hE⟩ : ∃ E, digitsN b = E := ⟨_, rfl⟩
  have l1 := digits_len a
  have l2 := digits_len b
  have c1 := digits_check a
  have c2 := digits_check b
  have m1 := digits_15 a
  rw [hD] at l1 c1 m1
  rw [hE] at l2 c2
  rw [hD, hE] at h ⊢
  have g : ∀ (l : List Nat) (j : Nat), (l.take 8).getD j 0 = if j < 8 then l.getD j 0 else 0 := by
    intro l j
    rw [List.getD_eq_getElem?_getD, List.getD_eq_getElem?_getD, List.getElem?_take]
    split <;> rfl
  obtain ⟨s1, s2⟩ := sum_mono (E.take 8) (D.take 8) (by rw [List.length_take, List.length_take, l1, l2]) (fun j => by
    rw [g, g]; split
    · exact h j (by omega)
    · exact Nat.le_refl _) (fun j => by
    rw [g]; split
    · exact m1 j
    · exact Nat.zero_le _)
  have h8 := h 8 (by omega)
  have h9 := h 9 (by omega)
  have e8 : E.take 8 = D.take 8 := s2 (by omega)
  rw [e8] at c2
  apply List.ext_getElem (by rw [l1, l2])
  intro j h1 h2
  have q : ∀ (l : List Nat) (hj : j < l.length), l[j] = l.getD j 0 := by
    intro l hj; rw [List.getD_eq_getElem?_getD, List.getElem?_eq_getElem hj]; rfl
  rw [q D h1, q E h2]
  rcases Nat.lt_or_ge j 8 with hj | hj
  · have e := congrArg (fun l => l.getD j 0) e8
    simp only [g, if_pos hj] at e
    exact e.symm
  · rcases (show j = 8 ∨ j = 9 by omega) with rfl | rfl <;> omega

theorem sign_piece (seed : ByteArray) (l : Int) (msg : ByteArray) : ∀ k c, c < k → (signUpto seed l msg k).extract (16 * c) (16 * c + 16) = walkB (c : Int) 0 ((digitsN msg).getD c 0 : Nat) (secretB seed l (c : Int)) := by
  have sz : ∀ k, (signUpto seed l msg k).data.toList.length = 16 * k := by
    intro k
    induction k with
    | zero => rfl
    | succ k ih =>
      have h16 := walkB_size (k : Int) 0 ((digitsN msg).getD k 0 : Nat) _ (secretB_size seed l (k : Int))
      rw [signUpto, Go.Joins.data_append, List.length_append, ih, Array.length_toList]
      have : (walkB (k : Int) 0 ((digitsN msg).getD k 0 : Nat) (secretB seed l (k : Int))).data.size = 16 := h16
      omega
  intro k
  induction k with
  | zero => intro c h; omega
  | succ k ih =>
    intro c hc
    apply list_inj
    rw [extract_list, signUpto, Go.Joins.data_append]
    rcases Nat.lt_or_ge c k with h | h
    · rw [List.take_append_of_le_length (by rw [sz]; omega), ← extract_list, ih c h]
    · obtain rfl : c = k := by omega
      have h16 : (walkB (c : Int) 0 ((digitsN msg).getD c 0 : Nat) (secretB seed l (c : Int))).data.toList.length = 16 := by
        rw [Array.length_toList]; exact walkB_size _ _ _ _ (secretB_size seed l (c : Int))
      rw [List.take_of_length_le (by rw [List.length_append, sz, h16]; omega), List.drop_left' (sz c)]
theorem sign_size (seed : ByteArray) (l : Int) (msg : ByteArray) : (signB seed l msg).size = 160 := by
  have : ∀ k, (signUpto seed l msg k).size = 16 * k := by
    intro k
    induction k with
    | zero => rfl
    | succ k ih => rw [signUpto, ByteArray.size_append, ih, walkB_size _ _ _ _ (secretB_size _ _ _)]; omega
  exact this 10
/-- The stage's theorem: From of what was signed is the public key. -/
theorem from_sign (seed : ByteArray) (l : Int) (msg : ByteArray) : fromB (signB seed l msg) msg = publicB seed l := by
  unfold fromB publicB
  rw [if_pos (sign_size seed l msg)]
  congr 4
  apply List.map_congr_left
  intro c hc
  rw [List.mem_range] at hc
  rw [show signB seed l msg = signUpto seed l msg 10 from rfl, sign_piece seed l msg 10 c hc]
  exact walk_on (c : Int) 0 _ 15 _ (Nat.zero_le _) (digits_15 msg c) (by omega)
end Go.Proofs.YtnbaoihamjdjdaaGreatDoor.Sp

/- Package wots: the encoding of a number, a Tag's value, Step, secret. -/
namespace Go.Proofs.YtnbaoihamjdjdaaGreatDoor.Sp
open Go Go.RowKit
set_option maxRecDepth 100000

theorem tab_below {w w' : World} (h : Tab w) (hb : Below w.heap.size w w') : Tab w' := h.below hb h.lt
theorem tab_alloc {w : World} (h : Tab w) (o : Obj) : Tab (w.alloc o) := tab_below h ((Below.refl _ _).alloc (Nat.le_refl _) o)
theorem tab_drew_ {w : World} (h : Tab w) : Tab w.drew := h
/-- A block of texts, as Tag takes it. -/
theorem strs_of_blk {w : World} {g : Nat} {t : TypeId} {ss : List ByteArray} {n : Nat} (h : Blk w g t (ss.map Value.string).toArray) (hn : ss.length = n) : Strs w (some ⟨g, 0, none⟩) n ss := by
  refine ⟨hn, fun _ => ⟨g, 0, rfl, fun j hj => ?_⟩⟩
  have hj' : j < ss.length := by omega
  rw [h.cell]
  simp [List.getD, hj']
theorem wtag_of (d : Nat) (hd : d < 256) (a : Option Addr) (n c : Nat) (ss : List ByteArray) (w : World) (h : Strs w a n ss) (hn : n ≤ 9223372036854775807) (hlen : len2 ss n ≤ 281474976710656) (hT : Tab w) (R : ByteArray) (hR : R = ⟨(sum (inB (UInt8.ofNat d) ss)).toArray⟩) :
    Calls Tryz.prog 51 #[.int .u8 (d : Int), .slice a n c] w fun e w' => e = .returned (.string R) ∧ Below w.heap.size w w' := by
  have h1 := tag_any (UInt8.ofNat d) a n c ss w h hn hlen hT
  have e : ((UInt8.ofNat d).toNat : Int) = (d : Int) := by rw [UInt8.toNat_ofNat']; omega
  rw [e, ← hR] at h1
  exact h1
theorem len2_tri (a b c : ByteArray) : len2 [a, b, c] 3 = 13 + a.size + b.size + c.size := by simp [len2]; omega

set_option maxHeartbeats 1000000 in
theorem encoding_any (n : Int) (h0 : -9223372036854775808 ≤ n) (h1 : n ≤ 9223372036854775807) (w : World) :
    Calls Tryz.prog 75 #[.int .i64 n] w fun e w' => e = .returned (.string (numB n)) ∧ Below w.heap.size w w' := by
  obtain ⟨N, hN⟩ : ∃ N, encN n = N := ⟨_, rfl⟩
  have hNl : N < 18446744073709551616 := by rw [← hN]; exact encN_lt n
  obtain ⟨R, hR⟩ : ∃ R, numB n = R := ⟨_, rfl⟩
  have HR := Lib.hid (show R = ⟨([] ++ be 8 N).toArray⟩ from by rw [← hR, ← hN]; rfl)
  rw [hR]
  have HN := Lib.hid hN
  clear hR hN
  have num_ := fun (w2 : World) (hq : Wr w2 w.heap.size w.heap.size []) => wnum_any w.heap.size w.heap.size N [] hNl w2 hq (by simp)
  have Hnum := Lib.hid num_
  clear num_
  have bytes_ := fun (w2 : World) (hq : Wr w2 w.heap.size w.heap.size ([] ++ be 8 N)) => bytes_any w.heap.size w.heap.size ([] ++ be 8 N) w2 hq
  rw [← HR.out] at bytes_
  have Hbytes := Lib.hid bytes_
  clear bytes_
  by_cases hn : n < 0
  · have hN0 : N = 0 := by rw [← HN.out, encN, if_pos (.inl hn)]
    subst hN0
    clear h0 h1
    go_enter Tryz.func75, Tryz.ntmps75
    go_wp2_with fail
    refine (newWriter_any w).mono ?_
    rintro e w2 ⟨rfl, h2⟩
    have Q2 := Lib.hid (show Wr w2 w.heap.size w.heap.size [] from by rw [h2]; exact ⟨Nat.le_refl _, _, Blk.new _ _ _, World.ownsRow_nil _ _ _ _⟩)
    have B2 := Lib.hid (show Below w.heap.size w w2 from by rw [h2]; exact (Below.refl _ _).alloc (Nat.le_refl _) _)
    clear h2
    go_wp2_with fail
    refine (Hnum.out w2 Q2.out).mono ?_
    rintro e w3 ⟨rfl, h3, o3⟩
    have B3 := Lib.hid (B2.out.trans o3)
    have Q3 := Lib.hid h3
    clear h3 o3
    go_wp2_with fail
    refine (Hbytes.out w3 Q3.out).mono ?_
    rintro e w4 ⟨rfl, rfl⟩
    go_wp2_with fail
    go_ret
    exact ⟨rfl, B3.out⟩
  · by_cases hb : 4294967296 < n
    · have hN0 : N = 0 := by rw [← HN.out, encN, if_pos (.inr hb)]
      subst hN0
      clear h0 h1
      go_enter Tryz.func75, Tryz.ntmps75
      go_wp2_with fail
      refine (newWriter_any w).mono ?_
      rintro e w2 ⟨rfl, h2⟩
      have Q2 := Lib.hid (show Wr w2 w.heap.size w.heap.size [] from by rw [h2]; exact ⟨Nat.le_refl _, _, Blk.new _ _ _, World.ownsRow_nil _ _ _ _⟩)
      have B2 := Lib.hid (show Below w.heap.size w w2 from by rw [h2]; exact (Below.refl _ _).alloc (Nat.le_refl _) _)
      clear h2
      go_wp2_with fail
      refine (Hnum.out w2 Q2.out).mono ?_
      rintro e w3 ⟨rfl, h3, o3⟩
      have B3 := Lib.hid (B2.out.trans o3)
      have Q3 := Lib.hid h3
      clear h3 o3
      go_wp2_with fail
      refine (Hbytes.out w3 Q3.out).mono ?_
      rintro e w4 ⟨rfl, rfl⟩
      go_wp2_with fail
      go_ret
      exact ⟨rfl, B3.out⟩
    · have hN0 : n = (N : Int) := by
        rw [← HN.out, encN, if_neg (by omega)]; omega
      subst hN0
      have hw : IntKind.u64.wrap (N : Int) = (N : Int) := by rw [IntKind.wrap_u64]; omega
      clear h0 h1
      go_enter Tryz.func75, Tryz.ntmps75
      go_wp2_with fail
      refine (newWriter_any w).mono ?_
      rintro e w2 ⟨rfl, h2⟩
      have Q2 := Lib.hid (show Wr w2 w.heap.size w.heap.size [] from by rw [h2]; exact ⟨Nat.le_refl _, _, Blk.new _ _ _, World.ownsRow_nil _ _ _ _⟩)
      have B2 := Lib.hid (show Below w.heap.size w w2 from by rw [h2]; exact (Below.refl _ _).alloc (Nat.le_refl _) _)
      clear h2
      go_wp2_with fail
      refine (Hnum.out w2 Q2.out).mono ?_
      rintro e w3 ⟨rfl, h3, o3⟩
      have B3 := Lib.hid (B2.out.trans o3)
      have Q3 := Lib.hid h3
      clear h3 o3
      go_wp2_with fail
      refine (Hbytes.out w3 Q3.out).mono ?_
      rintro e w4 ⟨rfl, rfl⟩
      go_wp2_with fail
      go_ret
      exact ⟨rfl, B3.out⟩

/-- The value of the Tag of some texts. -/
theorem valueOf_any (d : Nat) (hd : d < 256) (a : Option Addr) (n c : Nat) (ss : List ByteArray) (w : World) (h : Strs w a n ss) (hn : n ≤ 9223372036854775807) (hlen : len2 ss n ≤ 281474976710656) (hT : Tab w) (Z : ByteArray) (hZ : Z = cut16 (sum (inB (UInt8.ofNat d) ss))) :
    Calls Tryz.prog 74 #[.int .u8 (d : Int), .slice a n c] w fun e w' => e = .returned (.string Z) ∧ Below w.heap.size w w' := by
  obtain ⟨R, hR⟩ : ∃ R : ByteArray, R = ⟨(sum (inB (UInt8.ofNat d) ss)).toArray⟩ := ⟨_, rfl⟩
  have hRs : R.size = 32 := by rw [← size_list, hR]; exact sum_length _
  have hx : R.extract 0 16 = Z := by
    apply list_inj
    rw [extract_list, List.drop_zero, hR, hZ]
    rfl
  have hRi : (16 : Int) ≤ (R.size : Int) := by omega
  have HV := Lib.hid (wtag_of d hd a n c ss w h hn hlen hT R hR)
  clear h hlen hT hR hZ hRs hn
  go_enter Tryz.func74, Tryz.ntmps74
  go_wp2_with fail
  refine HV.out.mono ?_
  rintro e w1 ⟨rfl, h1⟩
  have B1 := Lib.hid h1
  clear h1
  go_wp2_with fail
  go_ret
  exact ⟨rfl, B1.out⟩

set_option maxHeartbeats 1000000 in
theorem wstep_any (c i : Int) (v : ByteArray) (hc : -9223372036854775808 ≤ c ∧ c ≤ 9223372036854775807) (hi : -9223372036854775808 ≤ i ∧ i ≤ 9223372036854775807) (hv : v.size ≤ 140737488351232) (w : World) (hT : Tab w) :
    Calls Tryz.prog 73 #[.int .i64 c, .int .i64 i, .string v] w fun e w' => e = .returned (.string (stepB c i v)) ∧ Below w.heap.size w w' := by
  obtain ⟨C, hC⟩ : ∃ C, numB c = C := ⟨_, rfl⟩
  obtain ⟨I, hI⟩ : ∃ I, numB i = I := ⟨_, rfl⟩
  obtain ⟨Z, hZ⟩ : ∃ Z, stepB c i v = Z := ⟨_, rfl⟩
  have HZ := Lib.hid (show Z = cut16 (sum (inB (UInt8.ofNat 2) [C, I, v])) from by rw [← hZ, ← hC, ← hI]; rfl)
  have hlen : len2 [C, I, v] 3 ≤ 281474976710656 := by
    rw [len2_tri, ← hC, ← hI, numB_size, numB_size]; omega
  have HL := Lib.hid hlen
  have HC := Lib.hid (encoding_any c hc.1 hc.2)
  have HI := Lib.hid (encoding_any i hi.1 hi.2)
  rw [hC] at HC
  rw [hI] at HI
  have HT := Lib.hid hT
  rw [hZ]
  clear hlen hC hI hT hZ
  go_enter Tryz.func73, Tryz.ntmps73
  go_wp2_with fail
  refine (HC.out w).mono ?_
  rintro e w1 ⟨rfl, h1⟩
  have T1 := Lib.hid (tab_below HT.out h1)
  have B1 := Lib.hid h1
  clear h1
  go_wp2_with fail
  refine (HI.out w1).mono ?_
  rintro e w2 ⟨rfl, h2⟩
  have T2 := Lib.hid (tab_below T1.out h2)
  have B2 := Lib.hid (B1.out.trans (h2.mono B1.out.size))
  clear h2
  go_wp2_with fail
  refine (valueOf_any 2 (by omega) (some ⟨w2.heap.size, 0, none⟩) 3 3 [C, I, v] _ (strs_of_blk (Blk.new w2 9 _) rfl) (by omega) HL.out (tab_alloc T2.out _) Z HZ.out).mono ?_
  rintro e w3 ⟨rfl, h3⟩
  have B3 := Lib.hid ((B2.out.alloc B2.out.size (.cells #[.string C, .string I, .string v] 9)).trans (h3.mono (by have := B2.out.size; simp; omega)))
  clear h3
  go_wp2_with fail
  go_ret
  exact ⟨rfl, B3.out⟩

set_option maxHeartbeats 1000000 in
theorem secret_any (seed : ByteArray) (l c : Int) (hl : -9223372036854775808 ≤ l ∧ l ≤ 9223372036854775807) (hc : -9223372036854775808 ≤ c ∧ c ≤ 9223372036854775807) (hv : seed.size ≤ 140737488351232) (w : World) (hT : Tab w) :
    Calls Tryz.prog 50 #[.string seed, .int .i64 l, .int .i64 c] w fun e w' => e = .returned (.string (secretB seed l c)) ∧ Below w.heap.size w w' := by
  obtain ⟨C, hC⟩ : ∃ C, numB l = C := ⟨_, rfl⟩
  obtain ⟨I, hI⟩ : ∃ I, numB c = I := ⟨_, rfl⟩
  obtain ⟨Z, hZ⟩ : ∃ Z, secretB seed l c = Z := ⟨_, rfl⟩
  have HZ := Lib.hid (show Z = cut16 (sum (inB (UInt8.ofNat 3) [seed, C, I])) from by rw [← hZ, ← hC, ← hI]; rfl)
  have hlen : len2 [seed, C, I] 3 ≤ 281474976710656 := by
    rw [len2_tri, ← hC, ← hI, numB_size, numB_size]; omega
  have HL := Lib.hid hlen
  have HC := Lib.hid (encoding_any l hl.1 hl.2)
  have HI := Lib.hid (encoding_any c hc.1 hc.2)
  rw [hC] at HC
  rw [hI] at HI
  have HT := Lib.hid hT
  rw [hZ]
  clear hlen hC hI hT hZ
  go_enter Tryz.func50, Tryz.ntmps50
  go_wp2_with fail
  refine (HC.out w).mono ?_
  rintro e w1 ⟨rfl, h1⟩
  have T1 := Lib.hid (tab_below HT.out h1)
  have B1 := Lib.hid h1
  clear h1
  go_wp2_with fail
  refine (HI.out w1).mono ?_
  rintro e w2 ⟨rfl, h2⟩
  have T2 := Lib.hid (tab_below T1.out h2)
  have B2 := Lib.hid (B1.out.trans (h2.mono B1.out.size))
  clear h2
  go_wp2_with fail
  refine (valueOf_any 3 (by omega) (some ⟨w2.heap.size, 0, none⟩) 3 3 [seed, C, I] _ (strs_of_blk (Blk.new w2 9 _) rfl) (by omega) HL.out (tab_alloc T2.out _) Z HZ.out).mono ?_
  rintro e w3 ⟨rfl, h3⟩
  have B3 := Lib.hid ((B2.out.alloc B2.out.size (.cells #[.string seed, .string C, .string I] 9)).trans (h3.mono (by have := B2.out.size; simp; omega)))
  clear h3
  go_wp2_with fail
  go_ret
  exact ⟨rfl, B3.out⟩
end Go.Proofs.YtnbaoihamjdjdaaGreatDoor.Sp
