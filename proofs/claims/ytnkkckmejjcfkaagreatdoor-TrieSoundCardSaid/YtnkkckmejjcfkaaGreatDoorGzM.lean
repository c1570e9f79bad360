/- The document's own hashes of keys, leaves and inner nodes. -/
import Derived.Test.YtnkkckmejjcfkaaGreatDoorGzL
import Derived.Test.YtnkkckmejjcfkaaGreatDoorGzG
import Derived.Test.YtnkkckmejjcfkaaGreatDoorGzI
import Derived.Test.YtnkkckmejjcfkaaGreatDoorGzD
import Derived.SliceStrings
import Derived.SizedLaws
import Derived.Carry
import Derived.Lib.SmallJoins
namespace Go.Proofs.YtnkkckmejjcfkaaGreatDoor.Sp
open Go Go.RowKit
set_option maxRecDepth 100000

theorem len_two (a b : ByteArray) : len2 [a, b] 2 = 9 + a.size + b.size := by simp [len2]; omega
theorem len_one (a : ByteArray) : len2 [a] 1 = 5 + a.size := by simp [len2]; omega

set_option maxHeartbeats 1000000 in
theorem qkey_any (key : ByteArray) (w : World) (h : key.size ≤ 140737488351232) (hT : Tabs w) :
    Calls Tryz.prog 40 #[.string key] w fun e w' => e = .returned (.string (keyP key)) ∧ Below w.heap.size w w' := by
  obtain ⟨R, hR⟩ : ∃ R : ByteArray, R = ⟨(sum (inB (UInt8.ofNat 6) [key])).toArray⟩ := ⟨_, rfl⟩
  have HL := Lib.hid (show len2 [key] 1 ≤ 281474976710656 from by rw [len_one]; omega)
  have HR := Lib.hid hR
  have HT := Lib.hid hT
  rw [show keyP key = R from by rw [hR]; rfl]
  clear hR hT h
  go_enter Tryz.func40, Tryz.ntmps40
  go_wp2_with fail
  refine (qtag_any 6 (by omega) w.heap.size 1 1 [key] _ (strs_blk (Blk.new w 9 _) rfl) (by omega) HL.out (HT.out.alloc _) R HR.out).mono ?_
  rintro e w3 ⟨rfl, h3⟩
  have B3 := Lib.hid (((Below.refl w.heap.size w).alloc (Nat.le_refl _) (.cells #[.string key] 9)).trans (h3.mono (by simp)))
  clear h3
  go_wp2_with fail
  go_ret
  exact ⟨rfl, B3.out⟩
set_option maxHeartbeats 1000000 in
theorem qnothing_any (w : World) (hT : Tabs w) :
    Calls Tryz.prog 57 #[] w fun e w' => e = .returned (.string nothingB) ∧ Below w.heap.size w w' := by
  obtain ⟨R, hR⟩ : ∃ R : ByteArray, R = ⟨(sum (inB 9 [])).toArray⟩ := ⟨_, rfl⟩
  have HR := Lib.hid hR
  have HT := Lib.hid hT
  rw [show nothingB = R from by rw [hR]; rfl]
  clear hR hT
  go_enter Tryz.func57, Tryz.ntmps57
  go_wp2_with fail
  refine (rtag_any 9 none 0 0 [] _ ⟨rfl, fun hn => absurd hn (by omega)⟩ (by omega) (by simp [len2]) HT.out.1 HT.out.2 R HR.out).mono ?_
  rintro e w3 ⟨rfl, h3⟩
  have B3 := Lib.hid h3
  clear h3
  go_wp2_with fail
  go_ret
  exact ⟨rfl, B3.out⟩
set_option maxHeartbeats 1000000 in
theorem qleaf_any (a b : ByteArray) (w : World) (h : a.size + b.size ≤ 281474976710647) (hT : Tabs w) :
    Calls Tryz.prog 55 #[.string a, .string b] w fun e w' => e = .returned (.string (leafB a b)) ∧ Below w.heap.size w w' := by
  obtain ⟨R, hR⟩ : ∃ R : ByteArray, R = ⟨(sum (inB (UInt8.ofNat 7) [a, b])).toArray⟩ := ⟨_, rfl⟩
  have HL := Lib.hid (show len2 [a, b] 2 ≤ 281474976710656 from by rw [len_two]; omega)
  have HR := Lib.hid hR
  have HT := Lib.hid hT
  rw [show leafB a b = R from by rw [hR]; rfl]
  clear hR hT h
  go_enter Tryz.func55, Tryz.ntmps55
  go_wp2_with fail
  refine (qtag_any 7 (by omega) w.heap.size 2 2 [a, b] _ (strs_blk (Blk.new w 9 _) rfl) (by omega) HL.out (HT.out.alloc _) R HR.out).mono ?_
  rintro e w3 ⟨rfl, h3⟩
  have B3 := Lib.hid (((Below.refl w.heap.size w).alloc (Nat.le_refl _) (.cells #[.string a, .string b] 9)).trans (h3.mono (by simp)))
  clear h3
  go_wp2_with fail
  go_ret
  exact ⟨rfl, B3.out⟩
set_option maxHeartbeats 1000000 in
theorem qinner_any (a b : ByteArray) (w : World) (h : a.size + b.size ≤ 281474976710647) (hT : Tabs w) :
    Calls Tryz.prog 68 #[.string a, .string b] w fun e w' => e = .returned (.string (innerB a b)) ∧ Below w.heap.size w w' := by
  obtain ⟨R, hR⟩ : ∃ R : ByteArray, R = ⟨(sum (inB (UInt8.ofNat 8) [a, b])).toArray⟩ := ⟨_, rfl⟩
  have HL := Lib.hid (show len2 [a, b] 2 ≤ 281474976710656 from by rw [len_two]; omega)
  have HR := Lib.hid hR
  have HT := Lib.hid hT
  rw [show innerB a b = R from by rw [hR]; rfl]
  clear hR hT h
  go_enter Tryz.func68, Tryz.ntmps68
  go_wp2_with fail
  refine (qtag_any 8 (by omega) w.heap.size 2 2 [a, b] _ (strs_blk (Blk.new w 9 _) rfl) (by omega) HL.out (HT.out.alloc _) R HR.out).mono ?_
  rintro e w3 ⟨rfl, h3⟩
  have B3 := Lib.hid (((Below.refl w.heap.size w).alloc (Nat.le_refl _) (.cells #[.string a, .string b] 9)).trans (h3.mono (by simp)))
  clear h3
  go_wp2_with fail
  go_ret
  exact ⟨rfl, B3.out⟩
/-- An input of one part, or of two, as the document's own tells it. -/
theorem qin_one (d : Nat) (hd : d < 256) (a : ByteArray) (g c : Nat) (w : World) (h : Strs w (some ⟨g, 0, none⟩) 1 [a]) (hs : a.size ≤ 140737488351232) :
    Calls Tryz.prog 30 #[.int .u8 (d : Int), .slice (some ⟨g, 0, none⟩) 1 c] w fun e w' => e = .returned (.string (inT (UInt8.ofNat d) [a])) ∧ Below w.heap.size w w' := by
  have h1 := rinput_any (UInt8.ofNat d) (some ⟨g, 0, none⟩) 1 c [a] w h (by omega) (by rw [len_one]; omega) (inT (UInt8.ofNat d) [a]) rfl
  have e : ((UInt8.ofNat d).toNat : Int) = (d : Int) := by rw [UInt8.toNat_ofNat']; omega
  rw [e] at h1
  exact h1
theorem qin_two (d : Nat) (hd : d < 256) (a b : ByteArray) (g c : Nat) (w : World) (h : Strs w (some ⟨g, 0, none⟩) 2 [a, b]) (hs : a.size + b.size ≤ 281474976710647) :
    Calls Tryz.prog 30 #[.int .u8 (d : Int), .slice (some ⟨g, 0, none⟩) 2 c] w fun e w' => e = .returned (.string (inT (UInt8.ofNat d) [a, b])) ∧ Below w.heap.size w w' := by
  have h1 := rinput_any (UInt8.ofNat d) (some ⟨g, 0, none⟩) 2 c [a, b] w h (by omega) (by rw [len_two]; omega) (inT (UInt8.ofNat d) [a, b]) rfl
  have e : ((UInt8.ofNat d).toNat : Int) = (d : Int) := by rw [UInt8.toNat_ofNat']; omega
  rw [e] at h1
  exact h1
theorem qin_none (w : World) :
    Calls Tryz.prog 30 #[.int .u8 9, .slice none 0 0] w fun e w' => e = .returned (.string (inT 9 [])) ∧ Below w.heap.size w w' :=
  rinput_any 9 none 0 0 [] w ⟨rfl, fun hn => absurd hn (by omega)⟩ (by omega) (by simp [len2]) (inT 9 []) rfl
end Go.Proofs.YtnkkckmejjcfkaaGreatDoor.Sp

/- Plain acts in plain tries: what they leave, and what is known of it. No program is named here. -/
namespace Go.Proofs.YtnkkckmejjcfkaaGreatDoor.Sp
open Go

/-- Something done. -/
structure Act where
  what : Int
  key : Int
  value : ByteArray
def Act.none_ : Act := ⟨0, 0, .empty⟩
/-- Acts that an int and the reach let be. -/
def ActOk (x : Act) : Prop := (-9223372036854775808 ≤ x.what ∧ x.what ≤ 9223372036854775807) ∧ (-9223372036854775808 ≤ x.key ∧ x.key ≤ 9223372036854775807) ∧ x.value.size ≤ 140737488351232

/-- Which of n things a raw number speaks of. -/
def pickN (c : Int) (n : Nat) : Nat := (if c < 0 then (-(c + 1)).toNat else c.toNat) % n
theorem pickN_lt (c : Int) (n : Nat) (hn : 0 < n) : pickN c n < n := Nat.mod_lt _ hn
theorem pickN_small (d n : Nat) (hd : d < n) : pickN (d : Int) n = d := by
  unfold pickN; rw [if_neg (by omega)]; exact Nat.mod_eq_of_lt (by omega)
/-- One of nine keys. -/
def keyC (q : Nat) : ByteArray := ⟨#[UInt8.ofNat (97 + q)]⟩
theorem keyC_size (q : Nat) : (keyC q).size = 1 := rfl
def keyOf (c : Int) : ByteArray := keyC (pickN c 9)
/-- Where one of the nine keys stands. -/
def pathC (q : Nat) : ByteArray := keyP (keyC q)
theorem pathC_32 (q : Nat) : (pathC q).size = 32 := sumT_32 _
def stepF (l : List Ent) (x : Act) : List Ent := if pickN x.what 5 < 4 then setF l (pathC (pickN x.key 9)) x.value else delF l (pathC (pickN x.key 9))
/-- So many acts. -/
def actsF (l : List Ent) (ts : List Act) : List Ent := ts.foldl stepF l
/-- Acts, at most forty. -/
def doesF (l : List Ent) (ts : List Act) : List Ent := actsF l (ts.take 40)
theorem actsF_snoc (l : List Ent) (ts : List Act) (x : Act) : actsF l (ts ++ [x]) = stepF (actsF l ts) x := by simp [actsF]
theorem step_fit {l : List Ent} (h : FitT l) (x : Act) : FitT (stepF l x) := by
  unfold stepF; split
  · exact h.set _ _ (pathC_32 _)
  · exact h.del _
theorem acts_fit : ∀ (ts : List Act) {l : List Ent}, FitT l → FitT (actsF l ts)
  | [], _, h => h
  | x :: ts, _, h => acts_fit ts (step_fit h x)
theorem does_fit (ts : List Act) {l : List Ent} (h : FitT l) : FitT (doesF l ts) := acts_fit _ h
theorem step_perm {l m : List Ent} (h : l.Perm m) (x : Act) : (stepF l x).Perm (stepF m x) := by
  unfold stepF; split
  · exact set_perm h _ _
  · exact del_perm h _
theorem del_len (l : List Ent) (p : ByteArray) : (delF l p).length ≤ l.length := List.length_filter_le _ _
theorem set_len (l : List Ent) (p v : ByteArray) : (setF l p v).length ≤ l.length + 1 := by
  unfold setF; rw [List.length_cons]; have := del_len l p; omega
theorem step_len (l : List Ent) (x : Act) : (stepF l x).length ≤ l.length + 1 := by
  unfold stepF; split
  · exact set_len _ _ _
  · have := del_len l (pathC (pickN x.key 9)); omega
theorem acts_len : ∀ (ts : List Act) (l : List Ent), (actsF l ts).length ≤ l.length + ts.length
  | [], l => Nat.le_refl _
  | x :: ts, l => by
    have h1 := acts_len ts (stepF l x)
    have h2 := step_len l x
    show (actsF (stepF l x) ts).length ≤ _
    rw [List.length_cons]; omega
theorem does_len (ts : List Act) (l : List Ent) : (doesF l ts).length ≤ l.length + 40 := by
  have h1 := acts_len (ts.take 40) l
  have h2 : (ts.take 40).length ≤ 40 := by rw [List.length_take]; omega
  unfold doesF; omega
theorem does_small {acts : List Act} {L : List Ent} (h : doesF [] acts = L) : L.length ≤ 40 := by
  have := does_len acts []
  rw [h] at this
  simp only [List.length_nil] at this
  omega
/-- Each entry stands where one of the nine keys does. -/
def Nine (l : List Ent) : Prop := ∀ e ∈ l, ∃ q, q < 9 ∧ e.1 = pathC q
theorem nine_nil : Nine [] := fun e h => by cases h
theorem Nine.del {l : List Ent} (h : Nine l) (p : ByteArray) : Nine (delF l p) := fun e he => h e (del_mem.1 he).1
theorem Nine.set {l : List Ent} (h : Nine l) (q : Nat) (hq : q < 9) (v : ByteArray) : Nine (setF l (pathC q) v) := fun e he => by
  rcases List.mem_cons.1 he with rfl | he
  · exact ⟨q, hq, rfl⟩
  · exact h.del _ e he
theorem Nine.step {l : List Ent} (h : Nine l) (x : Act) : Nine (stepF l x) := by
  unfold stepF; split
  · exact h.set _ (pickN_lt _ _ (by omega)) _
  · exact h.del _
theorem Nine.acts : ∀ (ts : List Act) {l : List Ent}, Nine l → Nine (actsF l ts)
  | [], _, h => h
  | x :: ts, _, h => Nine.acts ts (h.step x)
theorem Nine.get {l : List Ent} (h : Nine l) {p : ByteArray} (hp : ∀ q, q < 9 → p ≠ pathC q) : getF l p = none := by
  rw [get_none]
  intro v hv
  obtain ⟨q, hq, e⟩ := h _ hv
  exact hp q hq e
/-- All nine deleted: nothing is left. -/
theorem Nine.gone {l : List Ent} (h : Nine l) : ∀ k, (∀ e ∈ (List.range k).foldl (fun m q => delF m (pathC q)) l, e ∈ l ∧ ∀ q, q < k → e.1 ≠ pathC q)
  | 0, e, he => ⟨he, fun q hq => by omega⟩
  | k + 1, e, he => by
    rw [List.range_succ, List.foldl_append] at he
    obtain ⟨h1, h2⟩ := del_mem.1 (show e ∈ delF ((List.range k).foldl (fun m q => delF m (pathC q)) l) (pathC k) from he)
    obtain ⟨h3, h4⟩ := Nine.gone h k e h1
    refine ⟨h3, fun q hq => ?_⟩
    rcases Nat.lt_or_ge q k with h5 | h5
    · exact h4 q h5
    · obtain rfl : q = k := by omega
      exact h2
theorem Nine.gone9 {l : List Ent} (h : Nine l) : (List.range 9).foldl (fun m q => delF m (pathC q)) l = [] := by
  apply List.eq_nil_iff_forall_not_mem.2
  intro e he
  obtain ⟨h1, h2⟩ := h.gone 9 e he
  obtain ⟨q, hq, e1⟩ := h e h1
  exact h2 q hq e1
/-- Two unlike keys of one path are a clash. -/
theorem inT_one {a b : ByteArray} (h : inT 6 [a] = inT 6 [b]) : a = b := by
  have h1 : inB 6 [a] = inB 6 [b] := congrArg (fun t : ByteArray => t.data.toList) h
  have h2 : inB 6 [a] = 6 :: (partB a ++ []) := rfl
  have h3 : inB 6 [b] = 6 :: (partB b ++ []) := rfl
  rw [h2, h3, List.append_nil, List.append_nil] at h1
  injection h1 with _ h1
  unfold partB at h1
  have h4 : (bytes4 (BitVec.ofNat 32 a.size)).length = (bytes4 (BitVec.ofNat 32 b.size)).length := by rw [bytes4_length, bytes4_length]
  exact list_inj (List.append_inj h1 h4).2
theorem keys_clash {a b : ByteArray} (h : a ≠ b) (hp : keyP a = keyP b) {l : List ByteArray} (h1 : inT 6 [a] ∈ l) (h2 : inT 6 [b] ∈ l) : ClashIn l :=
  ⟨_, _, h1, h2, fun e => h (inT_one e), hp⟩
end Go.Proofs.YtnkkckmejjcfkaaGreatDoor.Sp

/- Slices of texts as arguments: what is known of them, and what the bound on the bulk says. -/
namespace Go.Proofs.YtnkkckmejjcfkaaGreatDoor.Sp
open Go Go.ChangeShapes Go.WideShapes Go.ChangeAt Go.RowKit
set_option maxRecDepth 100000

theorem cellsOfText : Tryz.prog.cellsOf 9 = 1 := by kernel_rfl

section
variable {H : Type}
theorem bulk_texts (l : List ByteArray) : (∀ s ∈ l, s.size ≤ Rows.uptoBulkAll (strs (H := H) l)) ∧ l.length ≤ Rows.uptoBulkAll (strs (H := H) l) := by
  induction l with
  | nil => exact ⟨(fun s hs => by cases hs), Nat.zero_le _⟩
  | cons s l ih =>
    have hs : s.data.toList.length = s.size := by simp
    simp only [strs, List.map_cons, Rows.uptoBulkAll, Rows.uptoBulk, List.length_cons] at ih ⊢
    rw [hs]
    refine ⟨fun x hx => ?_, by omega⟩
    rcases List.mem_cons.1 hx with rfl | hx
    · omega
    · have := ih.1 x hx; omega
theorem weights_texts : ∀ (l : List ByteArray) (s : ByteArray), s ∈ l → s.data.toList.length ∈ DataW.weightsAll Tryz.prog 9 (strs (H := H) l)
  | [], s, h => by cases h
  | x :: l, s, h => by
    show _ ∈ DataW.weights Tryz.prog 9 (.lit (.string x.data.toList)) ++ DataW.weightsAll Tryz.prog 9 (strs (H := H) l)
    rcases List.mem_cons.1 h with rfl | h
    · exact List.mem_append_left _ (by simp [DataW.weights])
    · exact List.mem_append_right _ (weights_texts l s h)
theorem sized_texts {ts : List TypeId} {ds : List (DataW H)} (h : (DataW.weightsEach Tryz.prog ts ds).all (· ≤ reachBytes) = true) {j : Nat} {t : TypeId} {d : DataW H} (ht : ts[j]? = some t) (hd : ds[j]? = some d) {ss : List ByteArray}
    (hs : ∀ s ∈ ss, s.data.toList.length ∈ d.weights Tryz.prog t) : ∀ s ∈ ss, s.size ≤ 140737488351232 := fun s h1 => by
  have h9 := List.all_eq_true.1 h _ (DataW.weights_mem_each ht hd _ (hs s h1))
  have h8 : s.data.toList.length ≤ reachBytes := by simpa using h9
  rw [size_list] at h8
  exact h8
theorem open_texts {enc : TypeId × Value → H} {W : World} {base : Nat} {v : Value} {d : DataW H} {ps : List MemPlace} (hval : Value.okWide Tryz.prog W .any base 37 v)
    (h : DataW.Trod enc Tryz.prog W 0 (fun _ => true) true 37 v d ps) :
    ∃ a n c ss, v = .slice a n c ∧ Strs W a n ss ∧ n ≤ c ∧ n ≤ 9223372036854775807 ∧ (∀ s ∈ ss, s.size ≤ 9223372036854775807) ∧ (∀ s ∈ ss, s.size ≤ Rows.uptoBulk d) ∧ n ≤ Rows.uptoBulk d ∧ (∀ s ∈ ss, s.data.toList.length ∈ d.weights Tryz.prog 37) := by
  obtain ⟨a0, len, cap, rfl⟩ := okWide_slice Tryz.underlying37 hval
  obtain ⟨fuel, hf⟩ := h
  rcases open_strings Tryz.underlying37 Tryz.underlying9 cellsOfText hf with ⟨hcs, hx⟩ | ⟨a, len', cap', ss, hcs, _, hl, hm, hz, hx, hcell, hws⟩
  · simp [Value.cells] at hcs
    obtain ⟨rfl, rfl, rfl⟩ := hcs
    exact ⟨none, 0, 0, [], rfl, ⟨rfl, fun h => by omega⟩, Nat.le_refl _, by omega, (fun s hs => by cases hs), (fun s hs => by cases hs), Nat.zero_le _, (fun s hs => by cases hs)⟩
  · simp [Value.cells] at hcs
    obtain ⟨rfl, rfl, rfl⟩ := hcs
    simp only [Prod.mk.injEq] at hx
    obtain ⟨rfl, _⟩ := hx
    simp only [if_true] at hz
    have hb := bulk_texts (H := H) (ss.take len)
    have hl2 : (ss.take len).length = len := by rw [List.length_take]; omega
    refine ⟨some a, len, cap, ss.take len, rfl, ⟨hl2, fun hp => ?_⟩, hl, by unfold maxLen at hm; omega, fun s hs => ?_, fun s hs => ?_, ?_, fun s hs => ?_⟩
    · obtain ⟨b, off, spot⟩ := a
      have hspot : spot = none := by simpa [Addr.add] using World.cell?_spot (hcell 0 (by omega))
      subst hspot
      refine ⟨b, off, rfl, fun j hj => ?_⟩
      rw [← Go.WideShapes.add_plain, hcell j (by omega), List.getD_eq_getElem?_getD, List.getD_eq_getElem?_getD, List.getElem?_take, if_pos hj]
    · have := hws s (List.mem_of_mem_take hs); unfold maxLen at this; omega
    · have := hb.1 s hs
      simp only [Rows.uptoBulk]; omega
    · simp only [Rows.uptoBulk]; omega
    · rw [DataW.weights, Tryz.underlying37]
      exact List.mem_cons_of_mem _ (List.mem_append_left _ (weights_texts _ s hs))
end
end Go.Proofs.YtnkkckmejjcfkaaGreatDoor.Sp

/- Acts and proofs as arguments of the statements of package trie. -/
namespace Go.Proofs.YtnkkckmejjcfkaaGreatDoor.Sp
open Go Go.ChangeShapes Go.WideShapes Go.ChangeAt Go.RowKit Go.Joins
set_option maxRecDepth 100000

def actVs (x : Act) : List Value := [.int .i64 x.what, .int .i64 x.key, .string x.value]
/-- Acts in memory. -/
def Acts (w : World) (a : Option Addr) (n : Nat) (l : List Act) : Prop :=
  l.length = n ∧ (0 < n → ∃ b off, a = some ⟨b, off, none⟩ ∧ ∀ j, j < n → w.cell? ⟨b, off + j * 3, none⟩ = some (.int .i64 (l.getD j Act.none_).what) ∧ w.cell? ⟨b, off + j * 3 + 1, none⟩ = some (.int .i64 (l.getD j Act.none_).key) ∧ w.cell? ⟨b, off + j * 3 + 2, none⟩ = some (.string (l.getD j Act.none_).value))
theorem Acts.below {w w' : World} {a : Option Addr} {n : Nat} {l : List Act} (h : Acts w a n l) (hb : Below w.heap.size w w') : Acts w' a n l :=
  ⟨h.1, fun hn => by
    obtain ⟨b, off, e, hc⟩ := h.2 hn
    have hlt : b < w.heap.size := block_lt_of_cell (hc 0 hn).1
    exact ⟨b, off, e, fun j hj => ⟨(hb.cell (p := ⟨b, off + j * 3, none⟩) hlt).trans (hc j hj).1, (hb.cell (p := ⟨b, off + j * 3 + 1, none⟩) hlt).trans (hc j hj).2.1, (hb.cell (p := ⟨b, off + j * 3 + 2, none⟩) hlt).trans (hc j hj).2.2⟩⟩⟩
section
variable {H : Type}
theorem act_fields : ∃ f0 f1 f2 : Field, Tryz.prog.underlying 31 = some (.struct #[f0, f1, f2]) ∧ (f0.type = 3 ∧ f0.offset = 0) ∧ (f1.type = 3 ∧ f1.offset = 1) ∧ (f2.type = 9 ∧ f2.offset = 2) :=
  ⟨_, _, _, Tryz.underlying31, ⟨rfl, rfl⟩, ⟨rfl, rfl⟩, ⟨rfl, rfl⟩⟩
/-- An act's datum. -/
def actD (x : Act) : DataW H := .agg [.lit (.int .i64 x.what), .lit (.int .i64 x.key), .lit (.string x.value.data.toList)]
theorem open_act {enc : TypeId × Value → H} {W : World} {nf : Nat} {cs : List Value} {y : DataW H × List MemPlace} (h : DataW.trod enc Tryz.prog W 0 (fun _ => true) true nf 31 cs = some y) :
    ∃ x : Act, cs = actVs x ∧ y.1 = actD x ∧ (-9223372036854775808 ≤ x.what ∧ x.what ≤ 9223372036854775807) ∧ (-9223372036854775808 ≤ x.key ∧ x.key ≤ 9223372036854775807) := by
  obtain ⟨f0, f1, f2, hs, ⟨t0, o0⟩, ⟨t1, o1⟩, ⟨t2, o2⟩⟩ := act_fields
  obtain ⟨xs, n, _, hx, hl, hlen, hg⟩ := DataW.trod_struct hs h
  have hc3 : Tryz.prog.cellsOf 31 = 3 := by kernel_rfl
  rw [hc3] at hl
  have g0 := hg 0 f0 rfl
  have g1 := hg 1 f1 rfl
  have g2 := hg 2 f2 rfl
  rw [t0, o0, show Tryz.prog.cellsOf 3 = 1 by kernel_rfl] at g0
  rw [t1, o1, show Tryz.prog.cellsOf 3 = 1 by kernel_rfl] at g1
  rw [t2, o2, show Tryz.prog.cellsOf 9 = 1 by kernel_rfl] at g2
  match cs, hl, xs, hlen with
  | [c0, c1, c2], _, [y0, y1, y2], _ =>
    simp only [List.drop_zero, List.drop_succ_cons, List.take_succ_cons, List.take_zero, List.getElem?_cons_zero, List.getElem?_cons_succ] at g0 g1 g2
    obtain ⟨m, hm1, hm2, hm3⟩ := DataW.trod_int Tryz.underlying3 g0
    obtain ⟨k, hk1, hk2, hk3⟩ := DataW.trod_int Tryz.underlying3 g1
    obtain ⟨s, hs1, hs2, hs3⟩ := DataW.trod_string Tryz.underlying9 g2
    refine ⟨⟨m, k, s⟩, ?_, ?_, bounds_i64 hm3, bounds_i64 hk3⟩
    · simp only [List.cons.injEq, and_true] at hm1 hk1 hs1
      rw [hm1, hk1, hs1]; rfl
    · rw [hx, hm2, hk2, hs2]; rfl
theorem weights_act (x : Act) : x.value.data.toList.length ∈ DataW.weights Tryz.prog 31 (actD (H := H) x) := by
  obtain ⟨f0, f1, f2, hs, ⟨t0, o0⟩, ⟨t1, o1⟩, ⟨t2, o2⟩⟩ := act_fields
  unfold actD
  rw [DataW.weights, hs]
  simp [DataW.weightsEach, DataW.weights]
theorem weights_acts : ∀ (l : List Act) (x : Act), x ∈ l → x.value.data.toList.length ∈ DataW.weightsAll Tryz.prog 31 (l.map (actD (H := H)))
  | [], x, h => by cases h
  | y :: l, x, h => by
    rw [List.map_cons, DataW.weightsAll]
    rcases List.mem_cons.1 h with rfl | h
    · exact List.mem_append_left _ (weights_act x)
    · exact List.mem_append_right _ (weights_acts l x h)
/-- A slice of acts as an argument. -/
theorem open_acts {enc : TypeId × Value → H} {W : World} {base : Nat} {v : Value} {d : DataW H} {ps : List MemPlace} (hval : Value.okWide Tryz.prog W .any base 22 v)
    (h : DataW.Trod enc Tryz.prog W 0 (fun _ => true) true 22 v d ps) :
    ∃ (a : Option Addr) (n c : Nat) (l : List Act), v = .slice a n c ∧ Acts W a n l ∧ n ≤ c ∧ n ≤ 9223372036854775807 ∧ (∀ x ∈ l, (-9223372036854775808 ≤ x.what ∧ x.what ≤ 9223372036854775807) ∧ (-9223372036854775808 ≤ x.key ∧ x.key ≤ 9223372036854775807)) ∧ (∀ x ∈ l, x.value.data.toList.length ∈ d.weights Tryz.prog 22) := by
  obtain ⟨a0, len, cap, rfl⟩ := okWide_slice Tryz.underlying22 hval
  obtain ⟨fuel, hf⟩ := h
  rcases Go.Deep.open_slice Tryz.underlying22 hf with ⟨hcs, hx⟩ | ⟨a, len', cap', m, nf, D, Pl, hcs, _, hl, hm, hmm, hx, hi⟩
  · simp [Value.cells] at hcs
    obtain ⟨rfl, rfl, rfl⟩ := hcs
    exact ⟨none, 0, 0, [], rfl, ⟨rfl, fun h => by omega⟩, Nat.le_refl _, by omega, (fun x hx => by cases hx), (fun x hx => by cases hx)⟩
  · simp [Value.cells] at hcs
    obtain ⟨rfl, rfl, rfl⟩ := hcs
    simp only [if_true] at hmm
    subst hmm
    have hc3 : Tryz.prog.cellsOf 31 = 3 := by kernel_rfl
    rw [hc3] at hi
    have each : ∀ i, ∃ x : Act, i < m → W.cells? 0 (a.add (i * 3)) 3 = some (actVs x) ∧ D i = actD x ∧ (-9223372036854775808 ≤ x.what ∧ x.what ≤ 9223372036854775807) ∧ (-9223372036854775808 ≤ x.key ∧ x.key ≤ 9223372036854775807) := by
      intro i
      by_cases him : i < m
      · obtain ⟨cs', hc, ht⟩ := hi i him
        obtain ⟨x, rfl, h2, h3, h4⟩ := open_act ht
        exact ⟨x, fun _ => ⟨hc, h2, h3, h4⟩⟩
      · exact ⟨Act.none_, fun h => absurd h him⟩
    obtain ⟨X, hX⟩ := Classical.axiomOfChoice each
    have hlen : ((List.range len).map X).length = len := by simp
    have hget : ∀ j, j < len → ((List.range len).map X).getD j Act.none_ = X j := by
      intro j hj
      rw [List.getD_eq_getElem?_getD, List.getElem?_eq_getElem (by rw [hlen]; exact hj)]; simp
    have hdat : (List.range len).map D = ((List.range len).map X).map (actD (H := H)) := by
      rw [List.map_map]
      exact List.map_congr_left (fun r hr => (hX r (by have := List.mem_range.1 hr; omega)).2.1)
    have hd : d = .slice ((List.range len).map D) ((List.range (m - len)).map fun j => D (len + j)) := congrArg Prod.fst hx
    refine ⟨some a, len, m, (List.range len).map X, rfl, ⟨hlen, fun hp => ?_⟩, hl, by unfold maxLen at hm; omega, fun x hx' => ?_, fun x hx' => ?_⟩
    · have hc0 := (World.cells?_some (hX 0 (by omega)).1).2.2 0 (by omega)
      obtain ⟨b, off, spot⟩ := a
      have hspot : spot = none := by simpa [Addr.add] using World.cell?_spot (hc0.trans (show (actVs (X 0))[0]? = some _ from rfl))
      subst hspot
      refine ⟨b, off, rfl, fun j hj => ?_⟩
      have hc := fun k hk => (World.cells?_some (hX j (by omega)).1).2.2 k hk
      rw [hget j hj]
      refine ⟨?_, ?_, ?_⟩
      · have h9 := hc 0 (by omega)
        rw [Go.WideShapes.add_plain, Go.WideShapes.add_plain] at h9
        exact h9
      · have h9 := hc 1 (by omega)
        rw [Go.WideShapes.add_plain, Go.WideShapes.add_plain] at h9
        exact h9
      · have h9 := hc 2 (by omega)
        rw [Go.WideShapes.add_plain, Go.WideShapes.add_plain] at h9
        exact h9
    · obtain ⟨r, hr, rfl⟩ := List.mem_map.1 hx'
      obtain ⟨_, _, h3, h4⟩ := hX r (by have := List.mem_range.1 hr; omega)
      exact ⟨h3, h4⟩
    · rw [hd, DataW.weights, Tryz.underlying22, hdat]
      exact List.mem_cons_of_mem _ (List.mem_append_left _ (weights_acts _ x hx'))
theorem acts_ok {ts : List TypeId} {ds : List (DataW H)} (h : (DataW.weightsEach Tryz.prog ts ds).all (· ≤ reachBytes) = true) {j : Nat} {t : TypeId} {d : DataW H} (ht : ts[j]? = some t) (hd : ds[j]? = some d) {l : List Act}
    (hb : ∀ x ∈ l, (-9223372036854775808 ≤ x.what ∧ x.what ≤ 9223372036854775807) ∧ (-9223372036854775808 ≤ x.key ∧ x.key ≤ 9223372036854775807))
    (hs : ∀ x ∈ l, x.value.data.toList.length ∈ d.weights Tryz.prog t) : ∀ x ∈ l, ActOk x := fun x hx => by
  have h9 := List.all_eq_true.1 h _ (DataW.weights_mem_each ht hd _ (hs x hx))
  have h8 : x.value.data.toList.length ≤ reachBytes := by simpa using h9
  rw [size_list] at h8
  exact ⟨(hb x hx).1, (hb x hx).2, h8⟩
/-- A list of texts that is a field. -/
theorem open_texts_at {enc : TypeId × Value → H} {W : World} {nf : Nat} {c0 : Value} {y : DataW H × List MemPlace} (hf : DataW.trod enc Tryz.prog W 0 (fun _ => true) true nf 37 [c0] = some y) :
    ∃ a n c ss, c0 = .slice a n c ∧ Strs W a n ss ∧ n ≤ c ∧ n ≤ 9223372036854775807 ∧ (∀ s ∈ ss, s.data.toList.length ∈ y.1.weights Tryz.prog 37) := by
  rcases open_strings Tryz.underlying37 Tryz.underlying9 cellsOfText hf with ⟨hcs, hx⟩ | ⟨a, len, cap, ss, hcs, _, hl, hm, hz, hx, hcell, hws⟩
  · injection hcs with hcs _
    subst hcs
    exact ⟨none, 0, 0, [], rfl, ⟨rfl, fun h => by omega⟩, Nat.le_refl _, by omega, (fun s hs => by cases hs)⟩
  · injection hcs with hcs _
    subst hcs
    subst hx
    simp only [if_true] at hz
    have hl2 : (ss.take len).length = len := by rw [List.length_take]; omega
    refine ⟨some a, len, cap, ss.take len, rfl, ⟨hl2, fun hp => ?_⟩, hl, by unfold maxLen at hm; omega, fun s hs => ?_⟩
    · obtain ⟨b, off, spot⟩ := a
      have hspot : spot = none := by simpa [Addr.add] using World.cell?_spot (hcell 0 (by omega))
      subst hspot
      refine ⟨b, off, rfl, fun j hj => ?_⟩
      rw [← Go.WideShapes.add_plain, hcell j (by omega), List.getD_eq_getElem?_getD, List.getD_eq_getElem?_getD, List.getElem?_take, if_pos hj]
    · rw [DataW.weights, Tryz.underlying37]
      exact List.mem_cons_of_mem _ (List.mem_append_left _ (weights_texts _ s hs))
theorem cellsProof : Tryz.prog.cellsOf 39 = 4 := by kernel_rfl
/-- A proof as an argument. -/
theorem open_proof {enc : TypeId × Value → H} {W : World} {base : Nat} {v : Value} {d : DataW H} {ps : List MemPlace} (hval : Value.okWide Tryz.prog W .any base 39 v)
    (h : DataW.Trod enc Tryz.prog W 0 (fun _ => true) true 39 v d ps) :
    ∃ (a : Option Addr) (n c : Nat) (q : Prf), v = prfV a n c q ∧ Strs W a n q.beside ∧ n ≤ c ∧ n ≤ 9223372036854775807 ∧ (∀ s ∈ q.beside, s.data.toList.length ∈ d.weights Tryz.prog 39) ∧ q.path.data.toList.length ∈ d.weights Tryz.prog 39 ∧ q.value.data.toList.length ∈ d.weights Tryz.prog 39 := by
  obtain ⟨c0, c1, c2, c3, y0, y1, y2, y3, m, rfl, hd, rfl, h0, h1, h2, h3⟩ := open_agg4 Tryz.underlying39 (by kernel_rfl) cellsProof hval h
  obtain ⟨a, n, c, ss, e0, hs, hc, hn, hw⟩ := open_texts_at h0
  obtain ⟨b, e1, _⟩ := DataW.trod_bool Tryz.underlying4 h1
  obtain ⟨s2, e2, d2, _⟩ := DataW.trod_string Tryz.underlying9 h2
  obtain ⟨s3, e3, d3, _⟩ := DataW.trod_string Tryz.underlying9 h3
  simp only [List.cons.injEq, and_true] at e1 e2 e3
  subst e0; subst e1; subst e2; subst e3
  refine ⟨a, n, c, ⟨ss, b, s2, s3⟩, rfl, hs, hc, hn, fun s hsm => ?_, ?_, ?_⟩
  · rw [hd, DataW.weights, Tryz.underlying39]
    exact DataW.weights_mem_each (j := 0) rfl rfl _ (hw s hsm)
  · rw [hd, DataW.weights, Tryz.underlying39]
    exact DataW.weights_mem_each (j := 2) rfl rfl _ (by rw [d2]; simp [DataW.weights])
  · rw [hd, DataW.weights, Tryz.underlying39]
    exact DataW.weights_mem_each (j := 3) rfl rfl _ (by rw [d3]; simp [DataW.weights])
theorem sized_one {ts : List TypeId} {ds : List (DataW H)} (h : (DataW.weightsEach Tryz.prog ts ds).all (· ≤ reachBytes) = true) {j : Nat} {t : TypeId} {d : DataW H} (ht : ts[j]? = some t) (hd : ds[j]? = some d) {s : ByteArray}
    (hs : s.data.toList.length ∈ d.weights Tryz.prog t) : s.size ≤ 140737488351232 :=
  sized_texts h ht hd (ss := [s]) (fun x hx => by rw [List.mem_singleton.1 hx]; exact hs) s (List.mem_singleton_self s)
end
end Go.Proofs.YtnkkckmejjcfkaaGreatDoor.Sp
