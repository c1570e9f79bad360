/- The document's own Len. -/
import Derived.Test.YtnkkckmejjcfkaaGreatDoorTriQSet
import Derived.Test.YtnkkckmejjcfkaaGreatDoorGzK
import Derived.Test.YtnkkckmejjcfkaaGreatDoorGzX
import Derived.Test.YtnkkckmejjcfkaaGreatDoorGzY
import Derived.Test.YtnkkckmejjcfkaaGreatDoorTriQProve
import Derived.Test.YtnkkckmejjcfkaaGreatDoorGzM
import Derived.Test.YtnkkckmejjcfkaaGreatDoorTriOne
namespace Go.Proofs.YtnkkckmejjcfkaaGreatDoor.Sp
open Go Go.RowKit
set_option maxRecDepth 100000

set_option maxHeartbeats 1000000 in
theorem qlen_any (w : World) (F : Nat → Prop) (g : Nat) (l : List Ent) (s : Tq w F g l) :
    Calls Tryz.prog 15 #[.pointer (some ⟨g, 0, none⟩)] w (TgTo Tq w F g l (.int .i64 (l.length : Int))) := by
  have S := Lib.hid (show TgTo Tq w F g l (.int .i64 (l.length : Int)) (.returned (.int .i64 (l.length : Int))) w from ⟨F, rfl, s, Turned.refl F w, Within.refl F w⟩)
  obtain ⟨E, al, cl, hperm, hblk, hE, _⟩ := s
  have c0 := hblk.cell 0
  rw [← hperm.length_eq] at c0
  clear hblk hE hperm
  go_enter Tryz.func15, Tryz.ntmps15
  go_wp2_with fail
  go_ret
  exact S.out
end Go.Proofs.YtnkkckmejjcfkaaGreatDoor.Sp

/- A pair of tries, with all that the document's own one answers. -/
namespace Go.Proofs.YtnkkckmejjcfkaaGreatDoor.Sp
end Go.Proofs.YtnkkckmejjcfkaaGreatDoor.Sp

/- Plain tries: what the statements' plays come to. No program is named here. -/
namespace Go.Proofs.YtnkkckmejjcfkaaGreatDoor.Sp
open Go

/-- What there is, set anew in another order, k keys of nine. -/
def orderF (l : List Ent) (from_ : Nat) : Nat → List Ent
  | 0 => []
  | k + 1 => match getF l (pathC ((from_ + 2 * k) % 9)) with
    | some v => setF (orderF l from_ k) (pathC ((from_ + 2 * k) % 9)) v
    | none => orderF l from_ k
theorem order_fit (l : List Ent) (f : Nat) : ∀ k, FitT (orderF l f k)
  | 0 => fitT_nil
  | k + 1 => by
    rw [orderF]
    split
    · exact (order_fit l f k).set _ _ (pathC_32 _)
    · exact order_fit l f k
theorem order_len (l : List Ent) (f : Nat) : ∀ k, (orderF l f k).length ≤ k
  | 0 => Nat.le_refl _
  | k + 1 => by
    have h := order_len l f k
    rw [orderF]
    split
    · exact Nat.le_trans (set_len _ _ _) (by omega)
    · omega
theorem order_get {l : List Ent} (f : Nat) (p : ByteArray) : ∀ k, getF (orderF l f k) p = if ∃ i, i < k ∧ p = pathC ((f + 2 * i) % 9) then getF l p else none
  | 0 => by rw [if_neg (by rintro ⟨i, hi, _⟩; omega)]; rfl
  | k + 1 => by
    have ih := order_get (l := l) f p k
    rw [orderF]
    by_cases hp : p = pathC ((f + 2 * k) % 9)
    · rw [if_pos ⟨k, by omega, hp⟩]
      cases h : getF l (pathC ((f + 2 * k) % 9)) with
      | some v =>
        simp only
        rw [get_set (order_fit l f k) _ _ _ (pathC_32 _), if_pos hp, hp, h]
      | none =>
        simp only
        rw [ih]
        split
        · rfl
        · rw [hp, h]
    · have hiff : (∃ i, i < k + 1 ∧ p = pathC ((f + 2 * i) % 9)) ↔ (∃ i, i < k ∧ p = pathC ((f + 2 * i) % 9)) := by
        constructor
        · rintro ⟨i, hi, e⟩
          refine ⟨i, ?_, e⟩
          rcases Nat.lt_or_ge i k with h | h
          · exact h
          · obtain rfl : i = k := by omega
            exact absurd e hp
        · rintro ⟨i, hi, e⟩; exact ⟨i, by omega, e⟩
      simp only [hiff]
      cases h : getF l (pathC ((f + 2 * k) % 9)) with
      | some v =>
        simp only
        rw [get_set (order_fit l f k) _ _ _ (pathC_32 _), if_neg hp, ih]
      | none =>
        simp only
        exact ih
theorem turn_all : ∀ f : Fin 9, ∀ q : Fin 9, ∃ i : Fin 9, (f.val + 2 * i.val) % 9 = q.val := by decide
theorem order_perm {l : List Ent} (hl : FitT l) (hn : Nine l) (f : Nat) (hf : f < 9) : l.Perm (orderF l f 9) := by
  refine perm_of_get hl (order_fit l f 9) fun p => ?_
  rw [order_get]
  by_cases h : ∃ i, i < 9 ∧ p = pathC ((f + 2 * i) % 9)
  · rw [if_pos h]
  · rw [if_neg h]
    refine hn.get fun q hq e => h ?_
    obtain ⟨i, hi⟩ := turn_all ⟨f, hf⟩ ⟨q, hq⟩
    exact ⟨i.val, i.isLt, by rw [e]; congr 1; exact hi.symm⟩

/-- The nine keys stand at nine places. -/
def Apart9 : Prop := ∀ q r, q < 9 → r < 9 → pathC q = pathC r → q = r
theorem keyC_inj (q r : Nat) (hq : q < 9) (hr : r < 9) (h : keyC q = keyC r) : q = r := by
  have h1 : UInt8.ofNat (97 + q) = UInt8.ofNat (97 + r) := by
    unfold keyC at h
    injection h with h
    injection h with h
    injection h with h _
  have h2 := congrArg UInt8.toNat h1
  rw [UInt8.toNat_ofNat', UInt8.toNat_ofNat'] at h2
  omega
/-- Else there is a clash among their inputs. -/
theorem nine_clash (h : ¬ Apart9) {l : List ByteArray} (hl : ∀ q, q < 9 → inT 6 [keyC q] ∈ l) : ClashIn l := by
  unfold Apart9 at h
  simp only [Classical.not_forall] at h
  obtain ⟨q, r, hq, hr, he, hne⟩ := h
  exact keys_clash (fun e => hne (keyC_inj q r hq hr e)) he (hl q hq) (hl r hr)
/-- A plain list of nine values. -/
def modelF (m : Nat → Option ByteArray) (x : Act) : Nat → Option ByteArray := fun j => if j = pickN x.key 9 then (if pickN x.what 5 < 4 then some x.value else none) else m j
theorem model_step (ha : Apart9) {l : List Ent} (hl : FitT l) {m : Nat → Option ByteArray} (h : ∀ j, j < 9 → getF l (pathC j) = m j) (x : Act) : ∀ j, j < 9 → getF (stepF l x) (pathC j) = modelF m x j := fun j hj => by
  have hk := pickN_lt x.key 9 (by omega)
  have hiff : (pathC j = pathC (pickN x.key 9)) ↔ j = pickN x.key 9 := ⟨fun e => ha _ _ hj hk e, fun e => by rw [e]⟩
  unfold stepF modelF
  by_cases h4 : pickN x.what 5 < 4
  · rw [if_pos h4, if_pos h4, get_set hl _ _ _ (pathC_32 _)]
    simp only [hiff, h j hj]
  · rw [if_neg h4, if_neg h4, get_del hl]
    simp only [hiff, h j hj]
/-- How many there are. -/
theorem model_len (ha : Apart9) {l : List Ent} (hl : FitT l) (hn : Nine l) {m : Nat → Option ByteArray} (h : ∀ j, j < 9 → getF l (pathC j) = m j) : l.length = ((List.range 9).filter fun j => (m j).isSome).length := by
  have e1 : (l.map Prod.fst).Perm (((List.range 9).filter fun j => (m j).isSome).map pathC) := by
    rw [List.perm_ext_iff_of_nodup hl.nodup ?_]
    · intro p
      constructor
      · intro hp
        obtain ⟨e, he, rfl⟩ := List.mem_map.1 hp
        obtain ⟨q, hq, e2⟩ := hn e he
        refine List.mem_map.2 ⟨q, ?_, e2.symm⟩
        rw [List.mem_filter]
        refine ⟨List.mem_range.2 hq, ?_⟩
        have := (get_some hl (p := pathC q) (v := e.2)).2 (by rw [← e2]; exact he)
        rw [h q hq] at this
        rw [this]; rfl
      · intro hp
        obtain ⟨q, hq, rfl⟩ := List.mem_map.1 hp
        rw [List.mem_filter] at hq
        obtain ⟨h1, h2⟩ := hq
        obtain ⟨v, hv⟩ := Option.isSome_iff_exists.1 h2
        rw [← h q (List.mem_range.1 h1)] at hv
        exact List.mem_map.2 ⟨_, (get_some hl).1 hv, rfl⟩
    · rw [List.nodup_iff_pairwise_ne, List.pairwise_map]
      refine List.Pairwise.imp_of_mem ?_ ((List.nodup_iff_pairwise_ne.1 (List.Nodup.sublist List.filter_sublist List.nodup_range)))
      intro a b ha' hb' hab e
      rw [List.mem_filter] at ha' hb'
      exact hab (ha a b (List.mem_range.1 ha'.1) (List.mem_range.1 hb'.1) e)
  have := e1.length_eq
  rw [List.length_map, List.length_map] at this
  exact this
end Go.Proofs.YtnkkckmejjcfkaaGreatDoor.Sp

/- Clash as package trie's statements call it, where there is one; texts that are summed. -/
namespace Go.Proofs.YtnkkckmejjcfkaaGreatDoor.Sp
open Go Go.RowKit

/-- Clash where there is one. -/
theorem tclash_any (l : List ByteArray) (a : Option Addr) (n cap : Nat) (hn : n ≤ 4294967296) (hM : ∀ x ∈ l, x.size ≤ 9223372036854775000) (hS : ClashIn l) (w : World) (hl : Strs w a n l) (hT : Tab w) :
    Calls Tryz.prog 31 #[.slice a n cap] w fun e w' => e = .returned (.bool true) ∧ Below w.heap.size w w' :=
  clash_any Tab (fun _ _ h => h) (fun _ _ h hb => h.below hb h.lt) (fun b w h ht => sum_any b h w ht) l a n cap hn hM true ⟨fun _ => hS, fun _ => rfl⟩ w hl hT
theorem inT_one_size (d : UInt8) (a : ByteArray) (h : a.size ≤ 140737488351232) : (inT d [a]).size ≤ 9223372036854775000 := by
  rw [← size_list]
  show (inB d [a]).length ≤ _
  rw [← inp_all, inp_length]
  show len2 [a] 1 ≤ _
  rw [len_one]; omega
theorem text_eq (x y : ByteArray) (h : x = y) : (x.toList == y.toList) = true := by rw [h]; exact text_self y
end Go.Proofs.YtnkkckmejjcfkaaGreatDoor.Sp
