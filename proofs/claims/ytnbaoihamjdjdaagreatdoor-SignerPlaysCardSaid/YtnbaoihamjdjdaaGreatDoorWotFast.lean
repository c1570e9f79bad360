/- Keys, signatures and nodes over numbers, reckoned quickly; and that an example's signature is not another message's. No program is named here. -/
import Derived.Test.YtnbaoihamjdjdaaGreatDoorWotA
import Derived.Test.YtnbaoihamjdjdaaGreatDoorTreB
import Derived.Test.YtnbaoihamjdjdaaGreatDoorShaFast
namespace Go.Proofs.YtnbaoihamjdjdaaGreatDoor.Sp
open Go
set_option maxRecDepth 100000

/-- A text as a number. -/
def bn (v : ByteArray) : Nat := num v.data.toList
theorem partB_len (s : ByteArray) : (partB s).length = 4 + s.size := by
  unfold partB; rw [List.length_append, bytes4_len, size_list]
theorem inB_len (d : UInt8) (ss : List ByteArray) : (inB d ss).length = 1 + (ss.map fun s => 4 + s.size).sum := by
  unfold inB
  rw [List.length_cons, Nat.add_comm]
  congr 1
  induction ss with
  | nil => rfl
  | cons x l ih => rw [List.flatMap_cons, List.length_append, partB_len, ih]; rfl
/-- One part behind what there is. -/
def putN (a len n : Nat) : Nat := (a * 4294967296 + len) * 256 ^ len + n
theorem num_part (P : List UInt8) (s : ByteArray) (h : s.size < 4294967296) : num (P ++ partB s) = putN (num P) s.size (bn s) := by
  unfold partB putN bn
  rw [← List.append_assoc, num_app, num_app, bytes4_N, bytes4_len, size_list, BitVec.toNat_ofNat, Nat.mod_eq_of_lt h]
theorem num_inB (d : UInt8) (ss : List ByteArray) (h : ∀ s ∈ ss, s.size < 4294967296) : num (inB d ss) = ss.foldl (fun a s => putN a s.size (bn s)) d.toNat := by
  have key : ∀ (ss : List ByteArray) (P : List UInt8), (∀ s ∈ ss, s.size < 4294967296) → num (P ++ ss.flatMap partB) = ss.foldl (fun a s => putN a s.size (bn s)) (num P) := by
    intro ss
    induction ss with
    | nil => intro P _; simp
    | cons x l ih =>
      intro P hs
      rw [List.flatMap_cons, ← List.append_assoc, ih _ (fun s hm => hs s (List.mem_cons_of_mem _ hm)), num_part P x (hs x (List.mem_cons_self ..))]
      rfl
  have := key ss [d] h
  rw [show num [d] = d.toNat by simp [num]] at this
  exact this
theorem cut_N (l : List UInt8) (h : l.length = 32) : bn (cut16 l) = num l / 256 ^ 16 := by
  have e : num l = num (l.take 16 ++ l.drop 16) := by rw [List.take_append_drop]
  have hd := num_lt (l.drop 16)
  have ld : (l.drop 16).length = 16 := by rw [List.length_drop]; omega
  rw [ld] at hd
  rw [e, num_app, ld]
  show num (l.take 16) = _
  rw [Nat.mul_comm, Nat.mul_add_div (by decide), Nat.div_eq_of_lt hd, Nat.add_zero]
theorem numB_N (c : Nat) (h : c ≤ 4294967296) : bn (numB (c : Int)) = c := by
  show num (be 8 (encN (c : Int))) = c
  rw [num_be]
  unfold encN
  rw [if_neg (by omega)]
  omega

def stepN (c i v : Nat) : Nat := hashN (putN (putN (putN 2 8 c) 8 i) 16 v) 45 / 256 ^ 16
theorem step_N (c i : Nat) (v : ByteArray) (hc : c ≤ 4294967296) (hi : i ≤ 4294967296) (hv : v.size = 16) : bn (stepB (c : Int) (i : Int) v) = stepN c i (bn v) := by
  have hl : (inB 2 [numB (c : Int), numB (i : Int), v]).length = 45 := by
    rw [inB_len]; simp [numB_size, hv]
  have hn : num (inB 2 [numB (c : Int), numB (i : Int), v]) = putN (putN (putN 2 8 c) 8 i) 16 (bn v) := by
    rw [num_inB _ _ (by intro s hs; simp at hs; rcases hs with rfl | rfl | rfl <;> simp [numB_size, hv])]
    simp only [List.foldl_cons, List.foldl_nil, numB_size, hv, numB_N c hc, numB_N i hi]
    rfl
  unfold stepB stepN
  rw [cut_N _ (sum_length _), sum_N _ (by rw [hl]; omega), hl, hn]
def goN (c i : Nat) : Nat → Nat → Nat
  | 0, v => v
  | n + 1, v => frc (goN c i n v) fun x => stepN c (i + n) x
theorem go_N (c i : Nat) (hc : c ≤ 4294967296) : ∀ (n : Nat) (v : ByteArray), i + n ≤ 4294967296 → v.size = 16 → bn (goB (c : Int) (i : Int) n v) = goN c i n (bn v)
  | 0, _, _, _ => rfl
  | n + 1, v, h, hv => by
    rw [goB, show (i : Int) + (n : Int) = ((i + n : Nat) : Int) by omega, step_N c (i + n) _ hc (by omega) (goB_size _ _ _ _ hv), go_N c i hc n v (by omega) hv, goN, frc_eq]
def secN (leaf c : Nat) : Nat := hashN (putN (putN (putN 3 1 115) 8 leaf) 8 c) 30 / 256 ^ 16
theorem sec_N (leaf c : Nat) (hl : leaf ≤ 4294967296) (hc : c ≤ 4294967296) : bn (secretB ⟨#[115]⟩ (leaf : Int) (c : Int)) = secN leaf c := by
  have hs : (⟨#[115]⟩ : ByteArray).size = 1 := rfl
  have hlen : (inB 3 [⟨#[115]⟩, numB (leaf : Int), numB (c : Int)]).length = 30 := by
    rw [inB_len]; simp [numB_size, hs]
  have hn : num (inB 3 [⟨#[115]⟩, numB (leaf : Int), numB (c : Int)]) = putN (putN (putN 3 1 115) 8 leaf) 8 c := by
    rw [num_inB _ _ (by intro s h; simp at h; rcases h with rfl | rfl | rfl <;> simp [numB_size, hs])]
    simp only [List.foldl_cons, List.foldl_nil, numB_size, hs, numB_N leaf hl, numB_N c hc]
    rfl
  unfold secretB secN
  rw [cut_N _ (sum_length _), sum_N _ (by rw [hlen]; omega), hlen, hn]
/-- Ten values in the place of a public key's parts. -/
def endsN (f : Nat → Nat) : Nat → Nat
  | 0 => 4
  | k + 1 => frc (f k) fun x => putN (endsN f k) 16 x
theorem ends_N (F : Nat → ByteArray) (f : Nat → Nat) (h : ∀ c, c < 10 → (F c).size = 16 ∧ bn (F c) = f c) : num (sum (inB 4 ((List.range 10).map F))) = hashN (endsN f 10) 201 := by
  have hm : ∀ s ∈ (List.range 10).map F, s.size = 16 := by
    intro s hs
    simp only [List.mem_map, List.mem_range] at hs
    obtain ⟨c, hc, rfl⟩ := hs
    exact (h c hc).1
  have hl : (inB 4 ((List.range 10).map F)).length = 201 := by
    rw [inB_len, List.map_map, show ((fun s : ByteArray => 4 + s.size) ∘ F) = fun c => 4 + (F c).size from rfl, List.map_congr_left (g := fun _ => 20) (fun c hc => by rw [(h c (List.mem_range.1 hc)).1])]
    rfl
  have hn : ∀ k, k ≤ 10 → ((List.range k).map F).foldl (fun a s => putN a s.size (bn s)) 4 = endsN f k := by
    intro k
    induction k with
    | zero => intro _; rfl
    | succ k ih =>
      intro hk
      rw [List.range_succ, List.map_append, List.foldl_append, ih (by omega), endsN, frc_eq]
      simp only [List.map_cons, List.map_nil, List.foldl_cons, List.foldl_nil, (h k (by omega)).1, (h k (by omega)).2]
  rw [sum_N _ (by rw [hl]; omega), hl, num_inB _ _ (fun s hs => by rw [hm s hs]; omega), ← hn 10 (Nat.le_refl _)]
  rfl
def pubN (leaf : Nat) : Nat := hashN (endsN (fun c => goN c 0 15 (secN leaf c)) 10) 201
theorem pub_N (leaf : Nat) (hl : leaf ≤ 4294967296) : bn (publicB ⟨#[115]⟩ (leaf : Int)) = pubN leaf := by
  show num (sum (inB 4 ((List.range 10).map fun (c : Nat) => walkB (c : Int) 0 15 (secretB ⟨#[115]⟩ (leaf : Int) c)))) = _
  refine ends_N _ _ fun c hc => ⟨walkB_size _ _ _ _ (secretB_size _ _ _), ?_⟩
  have h := walk_nat (c : Int) 0 15 (secretB ⟨#[115]⟩ (leaf : Int) c) (by omega)
  rw [show walkB (c : Int) 0 15 (secretB ⟨#[115]⟩ (leaf : Int) c) = _ from h]
  rw [show ((0 : Nat) : Int) = ((0 : Nat) : Int) from rfl, go_N c 0 (by omega) _ _ (by omega) (secretB_size _ _ _), sec_N leaf c hl (by omega)]
def nodeN (a b : Nat) : Nat := hashN (putN (putN 5 32 a) 32 b) 73
theorem node_N (a b : ByteArray) (ha : a.size = 32) (hb : b.size = 32) : bn (nodeB a b) = nodeN (bn a) (bn b) := by
  have hl : (inB 5 [a, b]).length = 73 := by rw [inB_len]; simp [ha, hb]
  have hn : num (inB 5 [a, b]) = putN (putN 5 32 (bn a)) 32 (bn b) := by
    rw [num_inB _ _ (by intro s hs; simp at hs; rcases hs with rfl | rfl <;> omega)]
    simp only [List.foldl_cons, List.foldl_nil, ha, hb]
    rfl
  show num (sum (inB 5 [a, b])) = _
  rw [sum_N _ (by rw [hl]; omega), hl, hn]
  rfl

/-! The example: a signature of 'm' by the first of two leaves is none of 'n'. -/
def digM : List Nat := [9, 8, 6, 7, 11, 12, 2, 11, 3, 6]
def digN : List Nat := [4, 7, 5, 7, 7, 12, 11, 11, 3, 8]
theorem dig_M : digitsN ⟨#[109]⟩ = digM := by decide +kernel
theorem dig_N : digitsN ⟨#[110]⟩ = digN := by decide +kernel
def alienN : Nat := hashN (endsN (fun c => goN c (digN.getD c 0) (15 - digN.getD c 0) (goN c 0 (digM.getD c 0) (secN 0 c))) 10) 201
theorem dig_le (c : Nat) (h : c < 10) : digN.getD c 0 ≤ 15 ∧ digM.getD c 0 ≤ 15 := by
  have key : ∀ c : Fin 10, digN.getD c.val 0 ≤ 15 ∧ digM.getD c.val 0 ≤ 15 := by decide
  exact key ⟨c, h⟩
theorem alien_N : bn (fromB (signB ⟨#[115]⟩ 0 ⟨#[109]⟩) ⟨#[110]⟩) = alienN := by
  unfold fromB
  rw [if_pos (sign_size _ _ _), dig_N]
  show num (sum (inB 4 ((List.range 10).map _))) = _
  refine ends_N _ _ fun c hc => ?_
  obtain ⟨h1, h2⟩ := dig_le c hc
  have hp := sign_piece ⟨#[115]⟩ 0 ⟨#[109]⟩ 10 c hc
  rw [dig_M] at hp
  rw [show signB ⟨#[115]⟩ 0 ⟨#[109]⟩ = signUpto ⟨#[115]⟩ 0 ⟨#[109]⟩ 10 from rfl, hp]
  have hs : (secretB ⟨#[115]⟩ 0 (c : Int)).size = 16 := secretB_size _ _ _
  obtain ⟨V, hV⟩ : ∃ V, walkB (c : Int) 0 (digM.getD c 0 : Nat) (secretB ⟨#[115]⟩ 0 (c : Int)) = V := ⟨_, rfl⟩
  have hVs : V.size = 16 := by rw [← hV]; exact walkB_size _ _ _ _ hs
  have hVn : bn V = goN c 0 (digM.getD c 0) (secN 0 c) := by
    rw [← hV]
    have h := walk_nat (c : Int) 0 (digM.getD c 0) (secretB ⟨#[115]⟩ 0 (c : Int)) h2
    rw [show walkB (c : Int) 0 (digM.getD c 0 : Nat) (secretB ⟨#[115]⟩ 0 (c : Int)) = _ from h, go_N c 0 (by omega) _ _ (by omega) hs]
    have e := sec_N 0 c (by omega) (by omega)
    rw [show ((0 : Nat) : Int) = 0 from rfl] at e
    rw [e, Nat.sub_zero]
  rw [hV]
  refine ⟨walkB_size _ _ _ _ hVs, ?_⟩
  have h := walk_nat (c : Int) (digN.getD c 0) 15 V (by omega)
  rw [show walkB (c : Int) (digN.getD c 0 : Nat) 15 V = _ from h, go_N c _ (by omega) _ _ (by omega) hVs, hVn]
def alienB : Bool := frc (pubN 1) fun p => frc (pubN 0) fun q => frc alienN fun f => !(Nat.beq (nodeN f p) (nodeN q p))
theorem alien_kernel : alienB = true := by decide +kernel
theorem alien : nodeB (fromB (signB ⟨#[115]⟩ 0 ⟨#[109]⟩) ⟨#[110]⟩) (publicB ⟨#[115]⟩ 1) ≠ nodeB (publicB ⟨#[115]⟩ 0) (publicB ⟨#[115]⟩ 1) := by
  intro e
  have hp : ∀ l : Int, (publicB ⟨#[115]⟩ l).size = 32 := fun l => by rw [← size_list]; exact sum_length _
  have hf : (fromB (signB ⟨#[115]⟩ 0 ⟨#[109]⟩) ⟨#[110]⟩).size = 32 := by
    unfold fromB
    rw [if_pos (sign_size _ _ _), ← size_list]
    exact sum_length _
  have h := congrArg bn e
  have e0 := pub_N 0 (by omega)
  have e1 := pub_N 1 (by omega)
  rw [show ((0 : Nat) : Int) = 0 from rfl] at e0
  rw [show ((1 : Nat) : Int) = 1 from rfl] at e1
  rw [node_N _ _ hf (hp 1), node_N _ _ (hp 0) (hp 1), alien_N, e0, e1] at h
  have k := alien_kernel
  unfold alienB at k
  rw [frc_eq, frc_eq, frc_eq, h, Nat.beq_refl] at k
  cases k
end Go.Proofs.YtnbaoihamjdjdaaGreatDoor.Sp
