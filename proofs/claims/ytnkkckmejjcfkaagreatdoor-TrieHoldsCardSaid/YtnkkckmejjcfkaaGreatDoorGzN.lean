/- A map whose keys are paths (arrays of 32 bytes) and whose values are structs of one text, as a list of entries. (The types' names alone are the program's.) -/
import Derived.Maps.OwnSet
import Derived.Maps.RangeWalk
import Derived.DeepKeys4
import Derived.Test.YtnkkckmejjcfkaaGreatDoorGzG
import Derived.Test.YtnkkckmejjcfkaaGreatDoorGzI
import Derived.Sort.MapsRangeIn
import Derived.RangeFuncSeq
import Derived.Deep.MidRow
import Derived.Deep.WholeRow
import Derived.Laws.Bits64b
namespace Go.Proofs.YtnkkckmejjcfkaaGreatDoor.Sp
open Go Go.RowKit
set_option maxRecDepth 100000

def keyV (p : ByteArray) : Value := .agg (byteVs p.data.toList).toArray
def litP (p : ByteArray) : Lit := .string p.data.toList
theorem litP_inj {p q : ByteArray} (h : litP p = litP q) : p = q := by
  unfold litP at h
  injection h with h
  exact list_inj h
theorem litP_same (p q : ByteArray) : (litP p).sameKey (litP q) = decide (p = q) := by
  show (p.data.toList == q.data.toList) = _
  by_cases e : p = q
  · rw [e, decide_eq_true rfl, beq_self_eq_true]
  · rw [decide_eq_false e]
    exact beq_false_of_ne (fun h => e (list_inj h))
theorem keyed : Maps.Keyed Tryz.prog 67 :=
  Maps.Keyed.of_law (deep_law_laid laidOut (m := 2) (by omega) (of_decide_eq_true (by kernel_rfl)) (by kernel_rfl) (by rw [Tryz.underlying67]))
theorem mapM_some_ {α β : Type} (f : α → Option β) (g : α → β) : ∀ l : List α, (∀ x ∈ l, f x = some (g x)) → l.mapM f = some (l.map g)
  | [], _ => rfl
  | x :: l, h => by
    rw [List.mapM_cons, h x (List.mem_cons_self ..), mapM_some_ f g l (fun y hy => h y (List.mem_cons_of_mem _ hy))]
    rfl
theorem byte_wf (b : UInt8) : (Lit.int .u8 (b.toNat : Int)).wf = true := by
  have := b.toNat_lt
  simp only [Lit.wf, Bool.and_eq_true, decide_eq_true_eq]
  exact ⟨by show (0 : Int) ≤ _; omega, by show _ ≤ (255 : Int); omega⟩
theorem byte_key (b : UInt8) : (Lit.int .u8 (b.toNat : Int)).keyBytes = [b] := by
  have := b.toNat_lt
  show (bytesLE 1 ((b.toNat : Int) % 256).toNat).reverse = [b]
  rw [show ((b.toNat : Int) % 256).toNat = b.toNat by omega]
  show [UInt8.ofNat (b.toNat % 256)] = [b]
  rw [show b.toNat % 256 = b.toNat by omega, UInt8.ofNat_toNat]
theorem keyLits_byte (d : Nat) (b : UInt8) : Tryz.prog.keyLits (d + 1) 5 [byteV b] = some [.int .u8 (b.toNat : Int)] := by
  unfold Program.keyLits byteV
  rw [Tryz.underlying5]
  simp [byte_wf b]
theorem one_of (l : List UInt8) (i : Nat) (h : i < l.length) : ((byteVs l).drop (i * 1)).take 1 = [byteV (l.getD i 0)] := by
  have h2 : i < (byteVs l).length := by rw [byteVs_length]; exact h
  rw [Nat.mul_one, List.drop_eq_getElem_cons h2, List.take_succ_cons, List.take_zero]
  simp [byteVs, List.getD, h]
theorem flat_ones {α β : Type} (f : α → β) : ∀ l : List α, (l.map fun x => [f x]).flatten = l.map f
  | [] => rfl
  | x :: l => by rw [List.map_cons, List.flatten_cons, flat_ones f l]; rfl
theorem range_getD (l : List UInt8) (n : Nat) (h : l.length = n) (f : UInt8 → Lit) : (List.range n).map (fun i => f (l.getD i 0)) = l.map f := by
  apply List.ext_getElem
  · simp [h]
  · intro i h1 h2
    simp at h2
    simp [List.getD, h2]
theorem keyBytes_bytes : ∀ l : List UInt8, keyBytes (l.map fun b => Lit.int .u8 (b.toNat : Int)) = l
  | [] => rfl
  | b :: l => by
    show (Lit.int .u8 (b.toNat : Int)).keyBytes ++ keyBytes (l.map fun b => Lit.int .u8 (b.toNat : Int)) = _
    rw [byte_key, keyBytes_bytes l]; rfl
theorem keyOf_keyV (p : ByteArray) (h : p.size = 32) : keyOf Tryz.prog 67 (keyV p) = some (litP p) := by
  have hl : p.data.toList.length = 32 := by rw [size_list]; exact h
  have hkt : Tryz.prog.keyType 67 = true := by kernel_rfl
  have hc : Tryz.prog.cellsOf 67 = 32 := by kernel_rfl
  have hc1 : Tryz.prog.cellsOf 5 = 1 := by kernel_rfl
  have hsz : 0 < Tryz.prog.types.size := of_decide_eq_true (by kernel_rfl)
  have hf : (keyV p).formed Tryz.prog 67 = true := by
    simp [keyV, Value.formed, Tryz.underlying67, hc, byteVs_length, hl]
  have hk : Tryz.prog.keyLits (Tryz.prog.types.size + 1) 67 (keyV p).cells.toList = some (p.data.toList.map fun b => Lit.int .u8 (b.toNat : Int)) := by
    obtain ⟨d, hd⟩ : ∃ d, Tryz.prog.types.size = d + 1 := ⟨_, (Nat.succ_pred_eq_of_pos hsz).symm⟩
    show Tryz.prog.keyLits (Tryz.prog.types.size + 1) 67 (byteVs p.data.toList) = _
    rw [hd]
    unfold Program.keyLits
    rw [Tryz.underlying67]
    simp only [hc, hc1, byteVs_length, hl, if_true]
    rw [mapM_some_ _ (fun i => [Lit.int .u8 ((p.data.toList.getD i 0).toNat : Int)]) (List.range 32) (fun i hi => by
      rw [one_of _ _ (by rw [hl]; exact List.mem_range.1 hi)]
      exact keyLits_byte d _)]
    rw [Option.map_some, flat_ones, range_getD _ 32 hl (fun b => Lit.int .u8 (b.toNat : Int))]
  unfold keyOf
  rw [Tryz.underlying67]
  simp only [hkt, hf, hk, Bool.and_self, if_true, Option.map_some, keyBytes_bytes]
  rfl

/-- An entry as it is read. -/
def entD (e : Ent) : Lit × DataW Unit := (litP e.1, .lit (.string e.2.data.toList))
def valV (v : ByteArray) : Value := .agg #[.string v]
def rdS : Value → Option (DataW Unit × List MemPlace)
  | .agg cs => match cs.toList with
    | [.string s] => if s.size ≤ maxLen then some (.lit (.string s.data.toList), []) else none
    | _ => none
  | _ => none
theorem rdS_mk {s : ByteArray} (h : s.size ≤ maxLen) : rdS (valV s) = some (.lit (.string s.data.toList), []) := by
  show (if s.size ≤ maxLen then _ else _) = _
  rw [if_pos h]
theorem rdS_inv {v : Value} {z : DataW Unit × List MemPlace} (h : rdS v = some z) : ∃ s : ByteArray, v = valV s ∧ z = (.lit (.string s.data.toList), []) ∧ s.size ≤ maxLen := by
  unfold rdS at h
  split at h
  · split at h
    · rename_i cs s hs
      split at h
      · rename_i hle
        refine ⟨s, ?_, (Option.some.inj h).symm, hle⟩
        unfold valV
        congr 1
        apply Array.toList_inj.1
        exact hs
      · cases h
    · cases h
  · cases h
/-- Block b is a map of these entries. -/
def Mp (w : World) (b : Nat) (l : List Ent) : Prop := ∃ es, w.ownsMap Tryz.prog 67 rdS b l.length (.map es) ∧ es.Perm (l.map entD)
theorem map_tight {w : World} {b n : Nat} {es : List (Lit × DataW Unit)} (h : w.ownsMap Tryz.prog 67 rdS b n (.map es)) : w.ownsMap Tryz.prog 67 rdS b es.length (.map es) := by
  obtain ⟨E, clock, hb, F, _, hD⟩ := h
  refine ⟨E, clock, hb, F, ?_, hD⟩
  injection hD with hD
  rw [hD, length_sorted]
  simp
theorem Mp.of {w : World} {b n : Nat} {es : List (Lit × DataW Unit)} {l : List Ent} (h : w.ownsMap Tryz.prog 67 rdS b n (.map es)) (hp : es.Perm (l.map entD)) : Mp w b l :=
  ⟨es, by have e := hp.length_eq; rw [List.length_map] at e; rw [← e]; exact map_tight h, hp⟩
theorem Mp.perm {w : World} {b : Nat} {l m : List Ent} (h : Mp w b l) (hp : l.Perm m) : Mp w b m := by
  obtain ⟨es, h1, h2⟩ := h
  exact .of h1 (h2.trans (hp.map entD))
theorem Mp.lt {w : World} {b : Nat} {l : List Ent} (h : Mp w b l) : b < w.heap.size := by
  obtain ⟨es, h1, _⟩ := h
  exact h1.lt
theorem Mp.keep {w w' : World} {b : Nat} {l : List Ent} (h : Mp w b l) (hb : w'.heap[b]? = w.heap[b]?) : Mp w' b l := by
  obtain ⟨es, ⟨E, clock, h1, h2⟩, h3⟩ := h
  exact ⟨es, ⟨E, clock, hb.trans h1, h2⟩, h3⟩
theorem mp_new (w : World) : Mp (w.alloc (.map #[] 0)) w.heap.size [] := ⟨[], World.ownsMap_made w _ _ _, List.Perm.refl _⟩
theorem ent_same (p : ByteArray) (e : Ent) : (entD e).1.sameKey (litP p) = decide (e.1 = p) := litP_same e.1 p
theorem mp_has {es : List (Lit × DataW Unit)} {l : List Ent} (hp : es.Perm (l.map entD)) (p : ByteArray) : Maps.has (.map es) (litP p) = (getF l p).isSome := by
  rw [Maps.has_eq, Bool.eq_iff_iff]
  unfold getF
  rw [List.any_eq_true, Option.isSome_map, List.find?_isSome]
  constructor
  · rintro ⟨x, hx, hs⟩
    obtain ⟨e, he, rfl⟩ := List.mem_map.1 (hp.mem_iff.1 hx)
    rw [ent_same] at hs
    exact ⟨e, he, hs⟩
  · rintro ⟨e, he, hs⟩
    exact ⟨entD e, hp.mem_iff.2 (List.mem_map_of_mem he), by rw [ent_same]; exact hs⟩
theorem mp_at {es : List (Lit × DataW Unit)} {l : List Ent} (hF : FitT l) (hp : es.Perm (l.map entD)) (p : ByteArray) : (DataW.map es).atKey (litP p) (.lit (.string [])) = .lit (.string ((getF l p).getD .empty).data.toList) := by
  unfold DataW.atKey
  simp only
  cases hf : es.find? (fun q => q.1.sameKey (litP p)) with
  | none =>
    have hg : getF l p = none := by
      rw [get_none]
      intro v hv
      have h1 := List.find?_eq_none.1 hf (entD (p, v)) (hp.mem_iff.2 (List.mem_map_of_mem hv))
      rw [ent_same] at h1
      exact h1 (decide_eq_true rfl)
    rw [hg]
    rfl
  | some x =>
    have h1 := List.mem_of_find?_eq_some hf
    have h2 := List.find?_some hf
    obtain ⟨e, he, rfl⟩ := List.mem_map.1 (hp.mem_iff.1 h1)
    rw [ent_same] at h2
    have h3 : e.1 = p := of_decide_eq_true h2
    have hg : getF l p = some e.2 := by
      rw [get_some hF, ← h3]
      exact he
    rw [hg]
    rfl
theorem mp_filter {es : List (Lit × DataW Unit)} {l : List Ent} (hp : es.Perm (l.map entD)) (p : ByteArray) : (es.filter fun q => !q.1.sameKey (litP p)).Perm ((delF l p).map entD) := by
  have h1 := hp.filter (fun q => !q.1.sameKey (litP p))
  rw [List.filter_map] at h1
  have e : ((fun q : Lit × DataW Unit => !q.1.sameKey (litP p)) ∘ entD) = fun e : Ent => !decide (e.1 = p) := by
    funext e
    show (!(entD e).1.sameKey (litP p)) = _
    rw [ent_same]
  rw [e] at h1
  exact h1
theorem mp_get {w : World} {b : Nat} {l : List Ent} (h : Mp w b l) (hF : FitT l) (p : ByteArray) (hp : p.size = 32) :
    (Instr.lookup 55 (.map (some b)) (keyV p) true).run Tryz.prog w = .ok (.tuple #[valV ((getF l p).getD .empty), .bool (getF l p).isSome]) w := by
  obtain ⟨es, h1, h2⟩ := h
  obtain ⟨v, ps, hrun, hv⟩ := h1.look_ok keyed Tryz.underlying55 (z := valV .empty) (by kernel_rfl) (zd := .lit (.string [])) (zp := []) (rdS_mk (s := .empty) (by decide)) (keyOf_keyV p hp)
  obtain ⟨s, rfl, hz, _⟩ := rdS_inv hv
  rw [mp_has h2] at hrun
  rw [mp_at hF h2] at hz
  injection hz with hz
  injection hz with hz
  injection hz with hz
  rw [hrun, list_inj hz]
theorem mp_look {w : World} {b : Nat} {l : List Ent} (h : Mp w b l) (hF : FitT l) (p : ByteArray) (hp : p.size = 32) :
    (Instr.lookup 55 (.map (some b)) (keyV p) false).run Tryz.prog w = .ok (valV ((getF l p).getD .empty)) w := by
  obtain ⟨es, h1, h2⟩ := h
  obtain ⟨v, ps, hrun, hv⟩ := h1.lookup keyed Tryz.underlying55 (z := valV .empty) (by kernel_rfl) (zd := .lit (.string [])) (zp := []) (rdS_mk (s := .empty) (by decide)) (keyOf_keyV p hp)
  obtain ⟨s, rfl, hz, _⟩ := rdS_inv hv
  rw [mp_at hF h2] at hz
  injection hz with hz
  injection hz with hz
  injection hz with hz
  rw [hrun, list_inj hz]
theorem mp_len {w : World} {b : Nat} {l : List Ent} (h : Mp w b l) (ty : TypeId) : (Builtin.len_ #[55] ty #[.map (some b)]).run Tryz.prog w = .ok (.int .i64 (l.length : Int)) w := by
  obtain ⟨es, h1, h2⟩ := h
  rw [h1.len Tryz.underlying55 ty, Maps.size_eq, h2.length_eq, List.length_map]
theorem mp_set {w : World} {b : Nat} {l : List Ent} (h : Mp w b l) (p v : ByteArray) (hp : p.size = 32) (hl : l.length < maxLen) (hv : v.size ≤ maxLen) :
    ∃ w', (Instr.mapUpdate 55 (.map (some b)) (keyV p) (valV v)).run Tryz.prog w = .ok () w' ∧ Mp w' b (setF l p v) ∧ w.grownBy w' (some b) := by
  obtain ⟨es, h1, h2⟩ := h
  obtain ⟨w', hrun, ho, hg⟩ := h1.update keyed Tryz.underlying55 hl (keyOf_keyV p hp) (rdS_mk hv)
  refine ⟨w', hrun, .of ho ?_, hg⟩
  refine (WideShapes.insert_perm _ _).trans ?_
  exact (mp_filter h2 p).cons _
theorem mp_del {w : World} {b : Nat} {l : List Ent} (h : Mp w b l) (p : ByteArray) (hp : p.size = 32) (ty : TypeId) :
    ∃ w', (Builtin.delete_ #[55, 67] ty #[.map (some b), keyV p]).run Tryz.prog w = .ok (.tuple #[]) w' ∧ Mp w' b (delF l p) ∧ w.grownBy w' (some b) := by
  obtain ⟨es, h1, h2⟩ := h
  obtain ⟨w', hrun, ho, hg⟩ := h1.drop keyed Tryz.underlying55 (keyOf_keyV p hp) ty
  exact ⟨w', hrun, .of ho (mp_filter h2 p), hg.grown⟩
end Go.Proofs.YtnkkckmejjcfkaaGreatDoor.Sp

/- A range over a map of paths and contents: each entry once, in whatever order. -/
namespace Go.Proofs.YtnkkckmejjcfkaaGreatDoor.Sp
open Go Go.RowKit
set_option maxRecDepth 100000

theorem mapM_each {α β : Type} (f : α → Option β) : ∀ (l : List α) (r : List β), l.mapM f = some r → ∀ x ∈ l, ∃ y, f x = some y
  | [], _, _, x, hx => by cases hx
  | z :: l, r, h, x, hx => by
    rw [List.mapM_cons] at h
    cases hz : f z with
    | none => rw [hz] at h; cases h
    | some y =>
      rw [hz] at h
      cases hl : l.mapM f with
      | none =>
        have h2 : (some y >>= fun y => l.mapM f >>= fun ys => pure (y :: ys)) = some r := h
        rw [hl] at h2; cases h2
      | some ys =>
        rcases List.mem_cons.1 hx with rfl | hx
        · exact ⟨y, hz⟩
        · exact mapM_each f l ys hl x hx
theorem lit_byte_of {d : Nat} {c : Value} {r : List Lit} (h : Tryz.prog.keyLits d 5 [c] = some r) : ∃ b : UInt8, c = byteV b := by
  cases d with
  | zero => cases h
  | succ d =>
    unfold Program.keyLits at h
    rw [Tryz.underlying5] at h
    cases c <;> simp at h
    rename_i q n
    obtain ⟨⟨rfl, hw⟩, _⟩ := h
    simp only [Lit.wf, Bool.and_eq_true, decide_eq_true_eq] at hw
    have h0 : (0 : Int) ≤ n := hw.1
    have h1 : n ≤ (255 : Int) := hw.2
    refine ⟨UInt8.ofNat n.toNat, ?_⟩
    unfold byteV
    rw [UInt8.toNat_ofNat', show ((n.toNat % 2 ^ 8 : Nat) : Int) = n by omega]
theorem bytes_of : ∀ l : List Value, (∀ c ∈ l, ∃ b : UInt8, c = byteV b) → ∃ bs : List UInt8, l = byteVs bs
  | [], _ => ⟨[], rfl⟩
  | c :: l, h => by
    obtain ⟨b, hb⟩ := h c (List.mem_cons_self ..)
    obtain ⟨bs, hbs⟩ := bytes_of l (fun x hx => h x (List.mem_cons_of_mem _ hx))
    exact ⟨b :: bs, by rw [hb, hbs]; rfl⟩
theorem byteVs_inj : ∀ l m : List UInt8, byteVs l = byteVs m → l = m
  | [], [], _ => rfl
  | [], _ :: _, h => by cases h
  | _ :: _, [], h => by cases h
  | a :: l, b :: m, h => by
    have h1 : byteV a = byteV b ∧ byteVs l = byteVs m := by
      injection h with h1 h2
      exact ⟨h1, h2⟩
    rw [byteVs_inj l m h1.2]
    have h2 := h1.1
    unfold byteV at h2
    injection h2 with _ h2
    rw [UInt8.toNat_inj.1 (show a.toNat = b.toNat by omega)]
theorem keyOf_inv {key : Value} {kl : Lit} (h : keyOf Tryz.prog 67 key = some kl) : ∃ p : ByteArray, p.size = 32 ∧ key = keyV p ∧ kl = litP p := by
  have hc : Tryz.prog.cellsOf 67 = 32 := by kernel_rfl
  have hc1 : Tryz.prog.cellsOf 5 = 1 := by kernel_rfl
  have h0 := h
  unfold keyOf at h0
  rw [Tryz.underlying67] at h0
  simp only at h0
  split at h0
  · rename_i hcond
    rw [Bool.and_eq_true] at hcond
    obtain ⟨_, hf⟩ := hcond
    cases key <;> simp [Value.formed, Tryz.underlying67, hc] at hf
    rename_i cs
    obtain ⟨ls, hls, _⟩ := Option.map_eq_some_iff.1 h0
    unfold Program.keyLits at hls
    rw [Tryz.underlying67] at hls
    have hcl : (Value.agg cs).cells.toList.length = 32 := by show cs.toList.length = 32; rw [Array.length_toList]; exact hf
    simp only [hc, hc1, hcl, if_true] at hls
    obtain ⟨lss, hm, _⟩ := Option.map_eq_some_iff.1 hls
    have hall : ∀ c ∈ cs.toList, ∃ b : UInt8, c = byteV b := by
      intro c hcm
      obtain ⟨i, hi, rfl⟩ := List.getElem_of_mem hcm
      have hi32 : i < 32 := by rw [Array.length_toList] at hi; omega
      obtain ⟨y, hy⟩ := mapM_each _ _ _ hm i (List.mem_range.2 hi32)
      have e : ((Value.agg cs).cells.toList.drop (i * 1)).take 1 = [cs.toList[i]] := by
        show (cs.toList.drop (i * 1)).take 1 = _
        rw [Nat.mul_one, List.drop_eq_getElem_cons hi, List.take_succ_cons, List.take_zero]
      rw [e] at hy
      exact lit_byte_of hy
    obtain ⟨bs, hbs⟩ := bytes_of cs.toList hall
    have hbl : bs.length = 32 := by rw [← byteVs_length, ← hbs, Array.length_toList]; exact hf
    have hp : (⟨bs.toArray⟩ : ByteArray).size = 32 := hbl
    have hk : Value.agg cs = keyV ⟨bs.toArray⟩ := by
      unfold keyV
      congr 1
      apply Array.toList_inj.1
      rw [hbs]
    refine ⟨⟨bs.toArray⟩, hp, hk, ?_⟩
    rw [hk, keyOf_keyV _ hp] at h
    exact (Option.some.inj h).symm
  · cases h0

/-- A range over a map under way: these entries have come. -/
def Rg (w : World) (b r : Nat) (l done : List Ent) : Prop := ∃ es left cnt, w.ranges Tryz.prog 67 rdS b r l.length (.map es) left cnt ∧ es.Perm (l.map entD) ∧ (∀ e ∈ done, e ∈ l) ∧ (done.map Prod.fst).Nodup ∧
  (∀ e ∈ l, left (litP e.1) = true → e ∉ done) ∧ (∀ e ∈ l, left (litP e.1) = false → e ∈ done)
theorem Rg.mp {w : World} {b r : Nat} {l done : List Ent} (h : Rg w b r l done) : Mp w b l := by
  obtain ⟨es, _, _, h1, h2, _⟩ := h
  exact ⟨es, h1.owns, h2⟩
theorem Rg.kept {w w' : World} {b r : Nat} {l done : List Ent} {row : Option Nat} (h : Rg w b r l done) (hg : w.grownBy w' row) (hb : some b ≠ row) (hr : some r ≠ row) : Rg w' b r l done := by
  obtain ⟨es, left, cnt, h1, h2⟩ := h
  exact ⟨es, left, cnt, h1.kept hg hb hr, h2⟩
theorem Rg.lt {w : World} {b r : Nat} {l done : List Ent} (h : Rg w b r l done) : r < w.heap.size := by
  obtain ⟨es, left, cnt, h1, h2⟩ := h
  exact h1.lt
section
variable (w : World) {ops : Array Oper} {rest : List Oper} {o : Oper} {a : Act} {Q : Exit → Act → World → Prop}
theorem wpList_range_rg (hg : o.guard = none) (m : Operand) (hop : o.op = Op.range 55 m) (b : Nat) (l : List Ent) (hm : a.eval m = .map (some b)) (h : Mp w b l)
    (hK : ∀ w', Rg w' b w.heap.size l [] → w.grownBy w' none → w'.heap.size = w.heap.size + 1 → wpList Tryz.prog ops Q rest (a.put o.dst (.pointer (some ⟨w.heap.size, 0, none⟩))) w') :
    wpList Tryz.prog ops Q (o :: rest) a w := by
  obtain ⟨es, h1, h2⟩ := h
  refine wpList_range_own w hg m _ hop _ _ keyed Tryz.underlying55 rdS b _ _ hm h1 fun w' hr hgr hs => hK w' ⟨es, _, _, hr, h2, (fun e he => by cases he), List.nodup_nil, (fun e _ _ he => by cases he), fun e he hl => ?_⟩ hgr hs
  rw [Maps.has_eq, List.any_eq_false] at hl
  exact absurd (by rw [ent_same]; exact decide_eq_true rfl) (hl (entD e) (h2.mem_iff.2 (List.mem_map_of_mem he)))
theorem wpList_next_rg (hg : o.guard = none) (it : Operand) (hop : o.op = Op.next it false) (b r : Nat) (l done : List Ent) (hF : FitT l) (hit : a.eval it = .pointer (some ⟨r, 0, none⟩)) (h : Rg w b r l done)
    (hDone : done.Perm l → wpList Tryz.prog ops Q rest (a.put o.dst (.tuple #[.bool false])) w)
    (hMore : ∀ (p v : ByteArray) (w' : World), p.size = 32 → (p, v) ∈ l → Rg w' b r l (done ++ [(p, v)]) → w'.rangeLeft b r < w.rangeLeft b r → w.grownBy w' (some r) → w'.heap.size = w.heap.size → (Instr.entry (.pointer (some ⟨r, 0, none⟩))).run Tryz.prog w' = .ok (.tuple #[keyV p, valV v]) w' → wpList Tryz.prog ops Q rest (a.put o.dst (.tuple #[.bool true, keyV p, valV v])) w') :
    wpList Tryz.prog ops Q (o :: rest) a w := by
  obtain ⟨es, left, cnt, h1, h2, h3, h4, h5, h6⟩ := h
  refine wpList_next_ranges w hg it hop _ keyed rdS (fun p : ByteArray => keyV p) valV (fun key kl hk => by obtain ⟨p, _, e, _⟩ := keyOf_inv hk; exact ⟨p, e⟩) (fun v y hv => by obtain ⟨s, e, _⟩ := rdS_inv hv; exact ⟨s, e⟩) b r _ _ left cnt hit h1 ?_ ?_
  · intro _ hl
    refine hDone ((List.perm_ext_iff_of_nodup (nodup_of _ h4) (nodup_of _ hF.nodup)).2 fun e => ⟨h3 e, fun he => h6 e he (hl _)⟩)
  · intro x c kl y w' cnt' hk hlk hv hat hrg hlt hgr hsz hen
    obtain ⟨p, hp32, ek, rfl⟩ := keyOf_inv hk
    obtain ⟨s, es2, hy, _⟩ := rdS_inv hv
    unfold valV at es2
    injection es2 with es2
    have es2 : c = s := by simpa using es2
    subst es2
    have hxp : x = p := by
      have h7 := keyed.inj (l := litP p) hk (by rw [ek] at hk; exact hk)
      unfold keyV at ek
      injection ek with ek
      have e8 : byteVs x.data.toList = byteVs p.data.toList := by
        have := congrArg Array.toList ek
        simpa using this
      exact list_inj (byteVs_inj _ _ e8)
    subst hxp
    have hat1 := hat (.lit (.string []))
    rw [mp_at hF h2, hy] at hat1
    injection hat1 with hat1
    injection hat1 with hat1
    have hc : (getF l x).getD .empty = c := list_inj hat1
    have hin : (x, c) ∈ l := by
      obtain ⟨e, he, hek⟩ : ∃ e ∈ l, e.1 = x := by
        have hh : Maps.has (.map es) (litP x) = true := by
          have hz := hat
          exact Maps.has_true_of_atKey hz
        rw [mp_has h2] at hh
        cases hg2 : getF l x with
        | none => rw [hg2] at hh; cases hh
        | some v => exact ⟨(x, v), (get_some hF).1 hg2, rfl⟩
      have h9 : getF l x = some e.2 := by rw [get_some hF, ← hek]; exact he
      rw [h9] at hc
      have h10 : e.2 = c := hc
      rw [← hek, ← h10]
      exact he
    have hnd : (x, c) ∉ done := h5 _ hin hlk
    refine hMore x c w' hp32 hin ⟨es, _, cnt', hrg, h2, ?_, ?_, ?_, ?_⟩ (by rw [hrg.left_eq, h1.left_eq]; exact hlt) hgr hsz hen
    · intro e he
      rcases List.mem_append.1 he with he | he
      · exact h3 e he
      · rw [List.mem_singleton.1 he]; exact hin
    · rw [List.map_append, List.nodup_append]
      refine ⟨h4, by simp, fun u hu v hv e => ?_⟩
      obtain ⟨f, hf, rfl⟩ := List.mem_map.1 hu
      have hv2 : v = x := by simpa using hv
      rw [hv2] at e
      apply hnd
      have h11 : f.2 = c := hF.val (p := x) (by rw [← e]; exact h3 f hf) hin
      have h12 : f = (x, c) := by rw [← h11, ← e]
      rw [← h12]; exact hf
    · intro e he hl he2
      simp only [Bool.and_eq_true, Bool.not_eq_true', litP_same, decide_eq_false_iff_not] at hl
      rcases List.mem_append.1 he2 with he3 | he3
      · exact h5 e he hl.1 he3
      · rw [List.mem_singleton.1 he3] at hl
        exact hl.2 rfl
    · intro e he hl
      rw [litP_same] at hl
      by_cases e1 : e.1 = x
      · refine List.mem_append_right _ (List.mem_singleton.2 ?_)
        have h11 : e.2 = c := hF.val (p := x) (by rw [← e1]; exact he) hin
        rw [← h11, ← e1]
      · rw [decide_eq_false e1, Bool.not_false, Bool.and_true] at hl
        exact List.mem_append_left _ (h6 e he hl)
end
end Go.Proofs.YtnkkckmejjcfkaaGreatDoor.Sp

/- A range over a map of paths and contents inside a fence: each entry once, in whatever order. -/
namespace Go.Proofs.YtnkkckmejjcfkaaGreatDoor.Sp
open Go Go.RowKit
set_option maxRecDepth 100000

theorem Rg.iter_walk {w : World} {b r : Nat} {l done : List Ent} (h : Rg w b r l done) : ∃ o : Obj, w.heap[r]? = some o ∧ o.isWalk = true := by
  obtain ⟨es, left, cnt, h1, _⟩ := h
  exact h1.iter_walk
theorem Rg.of_walks {w w' : World} {b r : Nat} {l done : List Ent} (h : Rg w b r l done) (hk : KeepsWalks w w') : Rg w' b r l done ∧ w'.rangeLeft b r = w.rangeLeft b r := by
  obtain ⟨es, left, cnt, h1, h2⟩ := h
  have h3 := h1.of_walks hk
  exact ⟨⟨es, left, cnt, h3, h2⟩, by rw [h3.left_eq, h1.left_eq]⟩
theorem Rg.count {w : World} {b r : Nat} {l done : List Ent} (h : Rg w b r l done) : done.length ≤ l.length := by
  obtain ⟨_, _, _, _, _, h3, h4, _⟩ := h
  have hs : ∀ (a c : List Ent), a.Nodup → (∀ e ∈ a, e ∈ c) → a.length ≤ c.length := by
    intro a
    induction a with
    | nil => intro c _ _; exact Nat.zero_le _
    | cons x a ih =>
      intro c hn hs
      obtain ⟨s, t, rfl⟩ := List.append_of_mem (hs x (List.mem_cons_self ..))
      rw [List.nodup_cons] at hn
      have h1 := ih (s ++ t) hn.2 (fun e he => by
        rcases List.mem_append.1 (hs e (List.mem_cons_of_mem _ he)) with h | h
        · exact List.mem_append_left _ h
        · rcases List.mem_cons.1 h with rfl | h
          · exact absurd he hn.1
          · exact List.mem_append_right _ h)
      rw [List.length_append] at h1
      rw [List.length_cons, List.length_append, List.length_cons]
      omega
  exact hs _ _ (nodup_of _ h4) h3
section
variable {F : Fence} {n : Nat} {P : Program} (w : World) {ops : Array Oper} {rest : List Oper} {o : Oper} {a : Act} {Q : Exit → Act → World → Prop}
/-- A whole array is loaded, inside a fence. -/
theorem wpListIn_load_mid (hg : o.guard = none) (ty : TypeId) (x : Operand) (hop : o.op = .load ty x) (b off : Nat) (hx : a.eval x = .pointer (some ⟨b, off, none⟩)) (cs : List Value) (d : TypeDesc) (hc : w.rangeAt b off cs)
    (hu : P.underlying ty = some d) (hd : d.isRow = true) (hi : (P.info? ty).map (·.size) = some cs.length) (h : wpListIn F n P ops Q rest (a.put o.dst (.agg cs.toArray)) w) : wpListIn F n P ops Q (o :: rest) a w := by
  refine wpListIn_plain hg fun K' hK' => ?_
  unfold Oper.wpIn
  refine ⟨by simp [Oper.about, hop], ?_⟩
  rw [Oper.semAt_plain F _ _ (by rw [hop]; intro c hc'; cases hc')]
  simp only [execOp, hop, hx, run_loadAt_mid w b off ty cs d hc hu hd hi, Sem.run_bind, Sem.run_pure, Result.andThen_ok]
  exact hK' _ _ h
/-- A whole array is stored into the block that was made last, inside a fence. -/
theorem wpListIn_store_new (hg : o.guard = none) (ty : TypeId) (x y : Operand) (hop : o.op = .store ty x y) (c c' : Array Value) (hx : a.eval x = .pointer (some ⟨w.heap.size, 0, none⟩)) (hy : a.eval y = .agg c')
    (hi : (P.info? ty).map (·.size) = some c'.size) (ho : c.size = c'.size) (h1 : c'.all (·.oneCell') = true) (h : wpListIn F n P ops Q rest (a.put o.dst undef) (w.alloc (.cells c' ty))) : wpListIn F n P ops Q (o :: rest) a (w.alloc (.cells c ty)) := by
  refine wpListIn_plain hg fun K' hK' => ?_
  unfold Oper.wpIn
  refine ⟨by simp [Oper.about, hop], ?_⟩
  rw [Oper.semAt_plain F _ _ (by rw [hop]; intro c hc'; cases hc')]
  simp only [execOp, hop, hx, hy, run_storeAt_new w ty c c' hi ho h1, Sem.run_bind, Sem.run_pure, Result.andThen_ok]
  exact hK' _ _ h
end
section
variable {F : Fence} {n : Nat} (w : World) {ops : Array Oper} {rest : List Oper} {o : Oper} {a : Act} {Q : Exit → Act → World → Prop}
theorem wpListIn_range_rg (hg : o.guard = none) (m : Operand) (hop : o.op = Op.range 55 m) (b : Nat) (l : List Ent) (hm : a.eval m = .map (some b)) (h : Mp w b l)
    (hK : ∀ w', Rg w' b w.heap.size l [] → w.grownBy w' none → w'.heap.size = w.heap.size + 1 → wpListIn F n Tryz.prog ops Q rest (a.put o.dst (.pointer (some ⟨w.heap.size, 0, none⟩))) w') :
    wpListIn F n Tryz.prog ops Q (o :: rest) a w := by
  obtain ⟨es, h1, h2⟩ := h
  refine wpListIn_range_own w hg m _ hop _ _ keyed Tryz.underlying55 rdS b _ _ hm h1 fun w' hr hgr hs => hK w' ⟨es, _, _, hr, h2, (fun e he => by cases he), List.nodup_nil, (fun e _ _ he => by cases he), fun e he hl => ?_⟩ hgr hs
  rw [Maps.has_eq, List.any_eq_false] at hl
  exact absurd (by rw [ent_same]; exact decide_eq_true rfl) (hl (entD e) (h2.mem_iff.2 (List.mem_map_of_mem he)))
theorem wpListIn_next_rg (hg : o.guard = none) (it : Operand) (hop : o.op = Op.next it false) (b r : Nat) (l done : List Ent) (hF : FitT l) (hit : a.eval it = .pointer (some ⟨r, 0, none⟩)) (h : Rg w b r l done)
    (hDone : done.Perm l → wpListIn F n Tryz.prog ops Q rest (a.put o.dst (.tuple #[.bool false])) w)
    (hMore : ∀ (p v : ByteArray) (w' : World), p.size = 32 → (p, v) ∈ l → Rg w' b r l (done ++ [(p, v)]) → w'.rangeLeft b r < w.rangeLeft b r → w.grownBy w' (some r) → w'.heap.size = w.heap.size → (Instr.entry (.pointer (some ⟨r, 0, none⟩))).run Tryz.prog w' = .ok (.tuple #[keyV p, valV v]) w' → wpListIn F n Tryz.prog ops Q rest (a.put o.dst (.tuple #[.bool true, keyV p, valV v])) w') :
    wpListIn F n Tryz.prog ops Q (o :: rest) a w := by
  obtain ⟨es, left, cnt, h1, h2, h3, h4, h5, h6⟩ := h
  refine wpListIn_next_ranges w hg it hop _ keyed rdS (fun p : ByteArray => keyV p) valV (fun key kl hk => by obtain ⟨p, _, e, _⟩ := keyOf_inv hk; exact ⟨p, e⟩) (fun v y hv => by obtain ⟨s, e, _⟩ := rdS_inv hv; exact ⟨s, e⟩) b r _ _ left cnt hit h1 ?_ ?_
  · intro _ hl
    refine hDone ((List.perm_ext_iff_of_nodup (nodup_of _ h4) (nodup_of _ hF.nodup)).2 fun e => ⟨h3 e, fun he => h6 e he (hl _)⟩)
  · intro x c kl y w' cnt' hk hlk hv hat hrg hlt hgr hsz hen
    obtain ⟨p, hp32, ek, rfl⟩ := keyOf_inv hk
    obtain ⟨s, es2, hy, _⟩ := rdS_inv hv
    unfold valV at es2
    injection es2 with es2
    have es2 : c = s := by simpa using es2
    subst es2
    have hxp : x = p := by
      have h7 := keyed.inj (l := litP p) hk (by rw [ek] at hk; exact hk)
      unfold keyV at ek
      injection ek with ek
      have e8 : byteVs x.data.toList = byteVs p.data.toList := by
        have := congrArg Array.toList ek
        simpa using this
      exact list_inj (byteVs_inj _ _ e8)
    subst hxp
    have hat1 := hat (.lit (.string []))
    rw [mp_at hF h2, hy] at hat1
    injection hat1 with hat1
    injection hat1 with hat1
    have hc : (getF l x).getD .empty = c := list_inj hat1
    have hin : (x, c) ∈ l := by
      obtain ⟨e, he, hek⟩ : ∃ e ∈ l, e.1 = x := by
        have hh : Maps.has (.map es) (litP x) = true := by
          have hz := hat
          exact Maps.has_true_of_atKey hz
        rw [mp_has h2] at hh
        cases hg2 : getF l x with
        | none => rw [hg2] at hh; cases hh
        | some v => exact ⟨(x, v), (get_some hF).1 hg2, rfl⟩
      have h9 : getF l x = some e.2 := by rw [get_some hF, ← hek]; exact he
      rw [h9] at hc
      have h10 : e.2 = c := hc
      rw [← hek, ← h10]
      exact he
    have hnd : (x, c) ∉ done := h5 _ hin hlk
    refine hMore x c w' hp32 hin ⟨es, _, cnt', hrg, h2, ?_, ?_, ?_, ?_⟩ (by rw [hrg.left_eq, h1.left_eq]; exact hlt) hgr hsz hen
    · intro e he
      rcases List.mem_append.1 he with he | he
      · exact h3 e he
      · rw [List.mem_singleton.1 he]; exact hin
    · rw [List.map_append, List.nodup_append]
      refine ⟨h4, by simp, fun u hu v hv e => ?_⟩
      obtain ⟨f, hf, rfl⟩ := List.mem_map.1 hu
      have hv2 : v = x := by simpa using hv
      rw [hv2] at e
      apply hnd
      have h11 : f.2 = c := hF.val (p := x) (by rw [← e]; exact h3 f hf) hin
      have h12 : f = (x, c) := by rw [← h11, ← e]
      rw [← h12]; exact hf
    · intro e he hl he2
      simp only [Bool.and_eq_true, Bool.not_eq_true', litP_same, decide_eq_false_iff_not] at hl
      rcases List.mem_append.1 he2 with he3 | he3
      · exact h5 e he hl.1 he3
      · rw [List.mem_singleton.1 he3] at hl
        exact hl.2 rfl
    · intro e he hl
      rw [litP_same] at hl
      by_cases e1 : e.1 = x
      · refine List.mem_append_right _ (List.mem_singleton.2 ?_)
        have h11 : e.2 = c := hF.val (p := x) (by rw [← e1]; exact he) hin
        rw [← h11, ← e1]
      · rw [decide_eq_false e1, Bool.not_false, Bool.and_true] at hl
        exact List.mem_append_left _ (h6 e he hl)
end
end Go.Proofs.YtnkkckmejjcfkaaGreatDoor.Sp

/- Two bytes whose bits at a place are the same, as the walk sees them. No program is named here. -/
namespace Go.Proofs.YtnkkckmejjcfkaaGreatDoor.Sp
open Go

theorem u8_wrap (n : Int) : IntKind.u8.wrap n = n % 256 := by simp [IntKind.wrap, IntKind.bits, IntKind.signed]
theorem u8_xor (a b : Nat) (ha : a < 256) (hb : b < 256) : bits .xor .u8 (a : Int) (b : Int) = ((a ^^^ b : Nat) : Int) := by
  have hx : a ^^^ b < 2 ^ 8 := Nat.xor_lt_two_pow (by omega) (by omega)
  have h1 : (BitVec.ofInt 8 (a : Int)).toNat = a := by
    rw [BitVec.ofInt_natCast, BitVec.toNat_ofNat]; exact Nat.mod_eq_of_lt (by omega)
  have h2 : (BitVec.ofInt 8 (b : Int)).toNat = b := by
    rw [BitVec.ofInt_natCast, BitVec.toNat_ofNat]; exact Nat.mod_eq_of_lt (by omega)
  show IntKind.u8.wrap ((BitVec.ofInt 8 (a : Int) ^^^ BitVec.ofInt 8 (b : Int)).toNat : Int) = _
  rw [BitVec.toNat_xor, h1, h2, u8_wrap]
  omega
theorem u8_and_one (a : Nat) (ha : a < 256) : bits .and .u8 (a : Int) 1 = ((a % 2 : Nat) : Int) := by
  have h1 : (BitVec.ofInt 8 (a : Int)).toNat = a := by
    rw [BitVec.ofInt_natCast, BitVec.toNat_ofNat]; exact Nat.mod_eq_of_lt (by omega)
  have h2 : (BitVec.ofInt 8 (1 : Int)).toNat = 1 := by decide
  show IntKind.u8.wrap ((BitVec.ofInt 8 (a : Int) &&& BitVec.ofInt 8 (1 : Int)).toNat : Int) = _
  rw [BitVec.toNat_and, h1, h2, u8_wrap, Nat.and_one_is_mod]
  omega
theorem xor_bit (a b s : Nat) (h : a / 2 ^ s % 2 = b / 2 ^ s % 2) : (a ^^^ b) / 2 ^ s % 2 = 0 := by
  have t : (a ^^^ b).testBit s = false := by
    rw [Nat.testBit_xor, Nat.testBit_eq_decide_div_mod_eq, Nat.testBit_eq_decide_div_mod_eq, h]
    simp
  rw [Nat.testBit_eq_decide_div_mod_eq] at t
  have := of_decide_eq_false t
  omega
theorem bits_same (x1 x2 s : Nat) (h1 : x1 < 256) (h2 : x2 < 256) (h : x1 / 2 ^ s % 2 = x2 / 2 ^ s % 2) : (bits BinOp.and IntKind.u8 (bits BinOp.xor IntKind.u8 (x1 : Int) (x2 : Int) / 2 ^ s) 1 == 1) = false := by
  have hx : x1 ^^^ x2 < 2 ^ 8 := Nat.xor_lt_two_pow (by omega) (by omega)
  rw [u8_xor x1 x2 h1 h2]
  have e : (((x1 ^^^ x2 : Nat) : Int) / 2 ^ s) = (((x1 ^^^ x2) / 2 ^ s : Nat) : Int) := by simp
  rw [e, u8_and_one _ (Nat.lt_of_le_of_lt (Nat.div_le_self _ _) hx), xor_bit x1 x2 s h]
  rfl
end Go.Proofs.YtnkkckmejjcfkaaGreatDoor.Sp
