/- Package trie: places: the paths of all entries, in ascending order. -/
import Derived.Test.YtnkkckmejjcfkaaGreatDoorGzP
import Derived.Deep.RegionHeld3
namespace Go.Proofs.YtnkkckmejjcfkaaGreatDoor.Sp
open Go Go.RowKit Go.Lib Go.Sort
set_option maxRecDepth 100000

/-! The library's sort over no element. -/
set_option maxHeartbeats 2000000 in
theorem ins_none (p : Option Addr) (cap : Nat) (fv : Value) (w : World) :
    Calls Tryz.prog 99 #[.slice p 0 cap, .int .i64 0, .int .i64 0, fv] w fun e w' => e = .returned (.tuple #[]) ∧ w' = w := by
  go_enter Tryz.func99, Tryz.ntmps99
  go_wp2_with fail
  refine wp_loop_rounds 1 ?_
  rw [rounds_succ]
  go_wp2_with fail
  go_end0
  exact ⟨rfl, rfl⟩
set_option maxHeartbeats 2000000 in
theorem pdq_none (p : Option Addr) (cap : Nat) (lim : Int) (fv : Value) (w : World) :
    Calls Tryz.prog 92 #[.slice p 0 cap, .int .i64 0, .int .i64 0, .int .i64 lim, fv] w fun e w' => e = .returned (.tuple #[]) ∧ w' = w := by
  go_enter Tryz.func92, Tryz.ntmps92
  go_wp2_with fail
  refine wp_loop_rounds 1 ?_
  rw [rounds_succ]
  go_wp2_with ((go_at_call 99; refine (ins_none _ _ _ _).mono ?_; rintro e w' ⟨rfl, rfl⟩))
  (try simp only [Exit.inBlock, Exit.then]); refine bodyPost_ret (results_none rfl _ _ _) rfl ?_
  exact ⟨rfl, rfl⟩
set_option maxHeartbeats 2000000 in
theorem sort_none (p : Option Addr) (cap : Nat) (fv : Value) (w : World) :
    Calls Tryz.prog 82 #[.slice p 0 cap, fv] w fun e w' => e = .returned (.tuple #[]) ∧ w' = w := by
  have hl : ∀ W, Calls Tryz.prog 93 #[.int .u64 0] W fun e w' => e = .returned (.int .i64 (Lib.bitLen 0 : Nat)) ∧ w' = W := fun W =>
    Any.bits_Len (SlLaysF0.n15.bits (P := Tryz.prog) (ρ := sortPl_ren) { sortPl with }) 0 W (by omega) (by omega)
  go_enter Tryz.func82, Tryz.ntmps82
  go_wp2_with (first | (go_at_call 93; refine (hl _).mono ?_; rintro e w' ⟨rfl, rfl⟩) | (go_at_call 92; refine (pdq_none _ _ _ _ _).mono ?_; rintro e w' ⟨rfl, rfl⟩))
  go_end0
  exact ⟨rfl, rfl⟩

/-! Rows of paths. -/
theorem flatP_get : ∀ (ys : List P32) (k j : Nat), k < ys.length → j < 32 → (flatP ys)[k * 32 + j]? = (encP (ys.getD k default))[j]?
  | [], k, j, h, _ => absurd h (Nat.not_lt_zero _)
  | y :: ys, 0, j, _, hj => by
    show (encP y ++ flatP ys)[0 * 32 + j]? = (encP y)[j]?
    rw [Nat.zero_mul, Nat.zero_add, List.getElem?_append_left (by rw [encP_len]; exact hj)]
  | y :: ys, k + 1, j, h, hj => by
    show (encP y ++ flatP ys)[(k + 1) * 32 + j]? = (encP (ys.getD k default))[j]?
    rw [List.getElem?_append_right (by rw [encP_len]; omega), encP_len, show (k + 1) * 32 + j - 32 = k * 32 + j by omega]
    exact flatP_get ys k j (by rw [List.length_cons] at h; omega) hj
theorem flatK_get (d : Array P32) (k j : Nat) (hk : k < d.size) (hj : j < 32) : some ((flatK encP 32 d)[k * 32 + j]!) = (encP d[k]!)[j]? := by
  rw [get_flatK encP 32 d (k * 32 + j) (by omega), show (k * 32 + j) / 32 = k by omega, show (k * 32 + j) % 32 = j by omega, getElem!_pos _ _ (by rw [encP_len]; exact hj), List.getElem?_eq_getElem]
theorem holdsK_of_row {w : World} {g : Nat} {t : TypeId} {cur : Array Value} {ys : List P32} (hb : w.heap[g]? = some (.cells cur t (0, 0))) (ht : cur.toList.take (ys.length * 32) = flatP ys) : HoldsK encP 32 w g 0 ys.toArray := by
  intro t' ht'
  rw [size_flatK, List.size_toArray] at ht'
  have hk : t' / 32 < ys.length := by omega
  have hj : t' % 32 < 32 := Nat.mod_lt _ (by omega)
  have e : t' = t' / 32 * 32 + t' % 32 := by omega
  refine ⟨?_, by simp [World.frozen?, hb]⟩
  have h1 := flatK_get ys.toArray (t' / 32) (t' % 32) (by rw [List.size_toArray]; exact hk) hj
  rw [← e] at h1
  have h2 := flatP_get ys (t' / 32) (t' % 32) hk hj
  rw [← e, ← ht, List.getElem?_take_of_lt (by omega)] at h2
  have h3 : ys.toArray[t' / 32]! = ys.getD (t' / 32) default := by
    rw [getElem!_pos _ _ (by rw [List.size_toArray]; exact hk), List.getElem_toArray, List.getD_eq_getElem?_getD, List.getElem?_eq_getElem hk]; rfl
  rw [h3, ← h2] at h1
  rw [Nat.zero_add, cell_of_row w g t' cur t (0, 0) hb]
  rw [Array.getElem?_toList] at h1
  exact h1.symm
/-- Paths lie at a, one behind the other. -/
def Pl (w : World) (a : Option Addr) (n : Nat) (S : List ByteArray) : Prop := S.length = n ∧ (0 < n → ∃ b off, a = some ⟨b, off, none⟩ ∧ ∀ k, k < n → At w b (off + k * 32) (S.getD k .empty))
theorem At.lt {w : World} {b o : Nat} {p : ByteArray} (h : At w b o p) (hp : 0 < p.size) : b < w.heap.size := by
  have h1 := h 0 (byteV (p.data.toList[0]'(by rw [size_list]; exact hp))) (by unfold byteVs; rw [List.getElem?_map, List.getElem?_eq_getElem (by rw [size_list]; exact hp)]; rfl)
  exact World.block_lt_of_cell? _ _ h1
theorem Pl.below {w w' : World} {a : Option Addr} {n : Nat} {S : List ByteArray} (h : Pl w a n S) (hS : ∀ p ∈ S, p.size = 32) (hb : Below w.heap.size w w') : Pl w' a n S :=
  ⟨h.1, fun hn => by
    obtain ⟨b, off, e, hc⟩ := h.2 hn
    refine ⟨b, off, e, fun k hk => ?_⟩
    have hm : S.getD k .empty ∈ S := by
      rw [List.getD_eq_getElem?_getD, List.getElem?_eq_getElem (by rw [h.1]; exact hk)]; exact List.getElem_mem _
    exact (hc k hk).below hb ((hc k hk).lt (by rw [hS _ hm]; omega))⟩
theorem pl_of_holds {w : World} {g : Nat} {d : Array P32} (h : HoldsK encP 32 w g 0 d) : Pl w (some ⟨g, 0, none⟩) d.size (d.toList.map Subtype.val) := by
  refine ⟨by rw [List.length_map, Array.length_toList], fun _ => ⟨g, 0, rfl, fun k hk => ?_⟩⟩
  have e : (d.toList.map Subtype.val).getD k .empty = (d[k]!).1 := by
    rw [List.getD_eq_getElem?_getD, List.getElem?_map, List.getElem?_eq_getElem (by rw [Array.length_toList]; exact hk), getElem!_pos d k hk]; rfl
  rw [e]
  intro j u hu
  have hj : j < 32 := by have := (List.getElem?_eq_some_iff.1 hu).1; rw [len32 (d[k]!).2] at this; exact this
  have h1 := (h (k * 32 + j) (by rw [size_flatK]; omega)).1
  have h2 := flatK_get d k j hk hj
  rw [show (encP d[k]!)[j]? = some u from hu] at h2
  rw [Nat.zero_add] at h1 ⊢
  rw [h1]
  exact h2
theorem grown_sortK {w : World} {g n : Nat} {os : Array Obj} (d : Array P32) : w.grownBy (sortWorldK encP 32 w g 0 n d os) (some g) := by
  unfold sortWorldK putRowK
  refine ⟨rfl, rfl, rfl, by simp, fun k hk hne => ?_⟩
  rw [heap_grow_old _ _ (by simpa using hk)]
  have : g ≠ k := fun e => hne (by rw [e])
  simp [putRow, mapBlock, Sort.ahead, Array.getElem?_modify, this]

set_option maxHeartbeats 1000000 in
theorem collect_any (g : Nat) (lb : Array Value) (eg : ∀ args w, (callFunc g args).run Tryz.prog w = .ok (.enter g args) w) (S : List P32 → Prop) (N : Nat) (hN : N ≤ 1000000) (w : World)
    (hseq : SeqStopsK Fence.wide (3 - 1) Tryz.prog g lb (fun x : P32 => #[keyV x.1]) KeepsWalks S (fun _ => True) N w) :
    Calls Tryz.prog 81 #[.func (.func g) #[] lb] w fun e w' => ∃ (v : Value) (ys : List P32), e = .returned v ∧ S ys ∧
      w'.ownsRow w.heap.size 67 32 v ys.length (flatP ys) ∧ (v = .slice none 0 0 ↔ ys = []) ∧ Below w.heap.size w w' := by
  have HC := Lib.hid ((callsIn_wide (n := 3)).1 (appseq_any 3 (by omega) g lb eg S N hN w hseq))
  clear hseq eg
  go_enter Tryz.func81, Tryz.ntmps81
  go_wp2_with fail
  refine HC.out.mono ?_
  rintro e w' ⟨v, ys, rfl, h1, h2, h3, h4⟩
  have HX := Lib.hid (And.intro h1 (And.intro h2 (And.intro h3 h4)))
  clear h1 h2 h3 h4
  go_wp2_with fail
  go_ret
  exact ⟨v, ys, rfl, HX.out⟩

/-- What places hands back. -/
def PlTo (E : List Ent) (w : World) (e : Ending) (w' : World) : Prop :=
  ∃ (a : Option Addr) (c : Nat) (S : List ByteArray), e = .returned (.slice a S.length c) ∧ S.Perm (E.map Prod.fst) ∧ S.Pairwise (fun p q => numP p < numP q) ∧ Pl w' a S.length S ∧ S.length ≤ c ∧ Below w.heap.size w w'
theorem pairwise_of_get : ∀ (l : List ByteArray) (R : ByteArray → ByteArray → Prop), (∀ i j, i < j → j < l.length → R (l.getD i .empty) (l.getD j .empty)) → l.Pairwise R
  | [], _, _ => List.Pairwise.nil
  | x :: l, R, h => by
    refine List.Pairwise.cons (fun y hy => ?_) (pairwise_of_get l R fun i j h1 h2 => by
      have := h (i + 1) (j + 1) (by omega) (by rw [List.length_cons]; omega)
      simpa using this)
    obtain ⟨k, hk, rfl⟩ := List.getElem_of_mem hy
    have := h 0 (k + 1) (by omega) (by rw [List.length_cons]; omega)
    simpa [hk] using this

set_option maxHeartbeats 2000000 in
theorem sorted_any (g : Nat) (lb : Array Value) (eg : ∀ args w, (callFunc g args).run Tryz.prog w = .ok (.enter g args) w) (E : List Ent) (hE : FitT E) (hl : E.length ≤ 1000000) (w : World)
    (hseq : SeqStopsK Fence.wide (3 - 1) Tryz.prog g lb (fun x : P32 => #[keyV x.1]) KeepsWalks (fun ys => (ys.map Subtype.val).Perm (E.map Prod.fst)) (fun _ => True) E.length w) :
    Calls Tryz.prog 64 #[.func (.func g) #[] lb, .func (.func 66) #[] #[]] w (PlTo E w) := by
  have HC := Lib.hid (collect_any g lb eg _ E.length hl w hseq)
  have HE := Lib.hid hE
  have HL := Lib.hid hl
  clear hseq eg hE hl
  go_enter Tryz.func64, Tryz.ntmps64
  go_wp2_with fail
  refine HC.out.mono ?_
  rintro e w1 ⟨v, ys, rfl, hS, hrow, hnil, hb⟩
  have HS := Lib.hid hS
  have HB := Lib.hid hb
  have hlen : ys.length ≤ 1000000 := by
    have h1 := hS.length_eq
    rw [List.length_map, List.length_map] at h1
    have := HL.out
    omega
  rcases hrow.2 with ⟨rfl, hz⟩ | ⟨gb, cap, cur, rfl, hbase, hgb, r1, r2, r3, r4⟩
  · obtain rfl : ys = [] := List.eq_nil_of_length_eq_zero hz
    have HO := Lib.hid (show PlTo E w (.returned (.slice none 0 0)) w1 from ⟨none, 0, [], rfl, HS.out, List.Pairwise.nil, ⟨rfl, fun h => absurd h (Nat.not_lt_zero _)⟩, Nat.le_refl _, HB.out⟩)
    clear hS hb hrow hnil hlen hz
    go_wp2_with fail
    refine (sort_none _ _ _ _).mono ?_
    rintro e w2 ⟨rfl, rfl⟩
    go_wp2_with fail
    go_ret
    exact HO.out
  · have hH := holdsK_of_row hgb r4
    have hgl : gb < w1.heap.size := (Array.getElem?_eq_some_iff.1 hgb).1
    have cS := sort_any gb cap ys.toArray w1 hH hgl (by rw [List.size_toArray]; omega)
    rw [List.size_toArray] at cS
    have CS := Lib.hid cS
    have HO := Lib.hid (fun (d' : Array P32) (n : Nat) (os : Array Obj) (hp : PermIn 0 ys.length ys.toArray d') (hs : SortedIn (ltOf cmpQ) 0 ys.length d') =>
      show PlTo E w (.returned (.slice (some ⟨gb, 0, none⟩) ys.length cap)) (sortWorldK encP 32 w1 gb 0 n d' os) from by
        have hsz : d'.size = ys.length := by rw [hp.1, List.size_toArray]
        have hperm : d'.toList.Perm ys := by
          have h1 := hp.2.2
          rw [Array.toList_extract, Array.toList_extract] at h1
          simp only [List.drop_zero, Nat.sub_zero, List.extract_eq_take_drop] at h1
          rw [List.take_of_length_le (by rw [Array.length_toList, hsz]; exact Nat.le_refl _), List.take_of_length_le (by simp)] at h1
          exact h1
        have hpm : (d'.toList.map Subtype.val).Perm (E.map Prod.fst) := (hperm.map _).trans HS.out
        have hnd : (d'.toList.map Subtype.val).Nodup := hpm.nodup_iff.2 HE.out.nodup
        have hl2 : (d'.toList.map Subtype.val).length = ys.length := by rw [List.length_map, Array.length_toList, hsz]
        have hhold := holdsK_sortWorldK_c encP 32 w1 gb 0 ys.toArray d' n os hH hgl (by rw [hsz]; simp)
        have hpl := pl_of_holds hhold
        refine ⟨some ⟨gb, 0, none⟩, cap, d'.toList.map Subtype.val, by rw [hl2], hpm, ?_, by rw [hl2, ← hsz]; exact hpl, by rw [hl2]; exact r1, HB.out.grown (grown_sortK d') HB.out.size (fun j hj => by cases hj; exact hbase)⟩
        refine pairwise_of_get _ _ fun i j hij hj => ?_
        rw [hl2] at hj
        have e : ∀ k, k < ys.length → (d'.toList.map Subtype.val).getD k .empty = (d'[k]!).1 := fun k hk => by
          rw [List.getD_eq_getElem?_getD, List.getElem?_map, List.getElem?_eq_getElem (by rw [Array.length_toList, hsz]; exact hk), getElem!_pos d' k (by rw [hsz]; exact hk)]; rfl
        rw [e i (by omega), e j hj]
        have h1 := hs i j (Nat.zero_le _) hij hj
        rw [ltQ] at h1
        have h2 : ¬ numP (d'[j]!).1 < numP (d'[i]!).1 := of_decide_eq_false h1
        have h3 : numP (d'[i]!).1 ≠ numP (d'[j]!).1 := fun h => by
          have h4 := numP_inj (d'[i]!).2 (d'[j]!).2 h
          have h5 := (List.getElem_inj (i := i) (j := j) (h₀ := by rw [hl2]; omega) (h₁ := by rw [hl2]; exact hj) hnd).1 (by
            have e1 := e i (by omega)
            have e2 := e j hj
            rw [List.getD_eq_getElem?_getD, List.getElem?_eq_getElem (by rw [hl2]; omega)] at e1
            rw [List.getD_eq_getElem?_getD, List.getElem?_eq_getElem (by rw [hl2]; exact hj)] at e2
            exact e1.trans (h4.trans e2.symm))
          omega
        omega)
    clear hS hb hrow hnil hH cS hgb r1 r2 r3 r4 hbase
    go_wp2_with fail
    refine CS.out.mono ?_
    rintro e w2 ⟨rfl, d', n, os, hp, hs, rfl⟩
    have HO2 := Lib.hid (HO.out d' n os hp hs)
    clear hp hs
    generalize sortWorldK encP 32 w1 gb 0 n d' os = w2 at *
    go_wp2_with fail
    go_ret
    exact HO2.out

set_option maxHeartbeats 1000000 in
theorem places_any (g b : Nat) (E : List Ent) (w : World) (hb : Blk w g 57 #[.map (some b)]) (hM : Mp w b E) (hE : FitT E) (hl : E.length ≤ 1000000) :
    Calls Tryz.prog 42 #[.pointer (some ⟨g, 0, none⟩)] w (PlTo E w) := by
  have c0 := hb.cell 0
  simp only [List.getElem?_toArray, List.getElem?_cons_zero] at c0
  have B0 := (Below.refl w.heap.size w).alloc (Nat.le_refl _) (.cells #[.map (some b)] 55)
  have HS := Lib.hid (sorted_any 83 #[.pointer (some ⟨w.heap.size, 0, none⟩)]
    (enters_of Tryz.func83 (by kernel_rfl) rfl) E hE hl _
    (keys_stops (3 - 1) (by omega) w.heap.size b E hE (w.alloc (.cells #[.map (some b)] 55)) (Blk.new w _ _) (hM.keep (B0.block b hM.lt))))
  have HB := Lib.hid B0
  clear hb hM hE hl B0
  go_enter Tryz.func42, Tryz.ntmps42
  go_wp2_with (first
    | (go_at_call 65; refine (mkeys_any _ _).mono ?_; rintro e w' ⟨rfl, rfl⟩)
    | (go_at_call 64; refine HS.out.mono ?_; rintro e w2 ⟨a, c, S, rfl, h1, h2, h3, h4, h5⟩; have HX := Lib.hid (And.intro h1 (And.intro h2 (And.intro h3 (And.intro h4 h5)))); clear h1 h2 h3 h4 h5))
  go_ret
  exact ⟨a, c, S, rfl, HX.out.1, HX.out.2.1, HX.out.2.2.1, HX.out.2.2.2.1, HB.out.trans (HX.out.2.2.2.2.mono HB.out.size)⟩
end Go.Proofs.YtnkkckmejjcfkaaGreatDoor.Sp

/- Package trie: children: the function by which they are parted. -/
namespace Go.Proofs.YtnkkckmejjcfkaaGreatDoor.Sp
open Go Go.RowKit Go.Lib Go.Sort
set_option maxRecDepth 100000

theorem size_getD {S : List ByteArray} (hS : ∀ p ∈ S, p.size = 32) {i : Nat} (h : i < S.length) : (S.getD i .empty).size = 32 := by
  rw [List.getD_eq_getElem?_getD, List.getElem?_eq_getElem h]
  exact hS _ (List.getElem_mem h)

set_option maxHeartbeats 4000000 in
theorem kid1_any (b off c n Ba Bd : Nat) (S : List ByteArray) (hS : ∀ p ∈ S, p.size = 32) (d : Nat) (hd : d < 256) (i : Nat) (hi : i < n) (_hn : n ≤ 1000000) (W : World) (hl : S.length = n) (hP : ∀ k, k < n → At W b (off + k * 32) (S.getD k .empty))
    (hA : W.cell? ⟨Ba, 0, none⟩ = some (.slice (some ⟨b, off, none⟩) n c)) (hD : W.cell? ⟨Bd, 0, none⟩ = some (.int .i64 (d : Int))) :
    Calls Tryz.prog 70 #[.int .i64 (i : Int), .pointer (some ⟨Ba, 0, none⟩), .pointer (some ⟨Bd, 0, none⟩)] W fun e w' => e = .returned (.bool (decide (bitN (S.getD i .empty) d = 1))) ∧ ∃ q os, w' = grow (W.drewN q) os := by
  have hp := size_getD hS (show i < S.length by omega)
  have h1 := hP i hi
  obtain ⟨p, hpe⟩ : ∃ p, S.getD i .empty = p := ⟨_, rfl⟩
  rw [hpe] at hp h1 ⊢
  have HB := Lib.hid (fun w => bit_any p hp d hd w)
  have hkv : keyV p = .agg (byteVs p.data.toList).toArray := rfl
  have hlen := len32 hp
  have hu := Tryz.underlying67
  unfold At at h1
  rw [hkv] at HB
  obtain ⟨L, hL⟩ : ∃ L, byteVs p.data.toList = L := ⟨_, rfl⟩
  rw [hL] at HB h1 hlen
  have hinf : (Tryz.prog.info? 67).map (·.size) = some L.length := by rw [hlen]; exact cells32
  obtain ⟨y, hy⟩ : ∃ y, bitN p d = y := ⟨_, rfl⟩
  have hy2 := bitN_two p d
  rw [hy] at HB hy2 ⊢
  have hii : (i : Int) < (n : Int) := by omega
  have hi0 : (0 : Int) ≤ (i : Int) := by omega
  have HF := Lib.hid (And.intro h1 (And.intro hA hD))
  have hAl := World.block_lt_of_cell? _ _ hA
  have hDl := World.block_lt_of_cell? _ _ hD
  have HY := Lib.hid hy2
  clear hP hS hkv hL hpe hy hl hy2 hp
  go_enter Tryz.func70, Tryz.ntmps70
  go_wp2_with fail
  go_region_held3 (fun w' => w'.rangeAt b (off + i * 32) L ∧ w'.cell? ⟨Ba, 0, none⟩ = some (.slice (some ⟨b, off, none⟩) n c) ∧ w'.cell? ⟨Bd, 0, none⟩ = some (.int .i64 (d : Int))) ((first | (with_reducible assumption) | exact HF.out | exact ⟨World.rangeAt_alloc HF.out.1 _, cell_alloc_sl _ HF.out.2.1, cell_alloc_sl _ HF.out.2.2⟩)) ((go_at_call 46; refine (HB.out _).mono ?_; rintro e w1 ⟨rfl, rfl⟩))
  all_goals
    go_wp2_with fail
    go_ret
    refine ⟨?_, 1, #[.cells L.toArray 67], by rw [alloc_eq_grow]; rfl⟩
    rcases HY.out with h | h <;> subst h <;> rfl

/-! In ascending order, of paths that agree in their first d bits, those whose bit d is 0 come first. -/
/-- Those whose bit d is b. -/
def sideP (b d : Nat) (S : List ByteArray) : List ByteArray := S.filter fun p => decide (bitN p d = b)
theorem sideP_mem {b d : Nat} {S : List ByteArray} {p : ByteArray} : p ∈ sideP b d S ↔ p ∈ S ∧ bitN p d = b := by unfold sideP; rw [List.mem_filter, decide_eq_true_iff]
theorem bitN_byte (p : ByteArray) (j k : Nat) (hk : k < 8) : bitN p (8 * j + k) = byteN p j / 2 ^ (7 - k) % 2 := by
  unfold bitN byteN
  rw [show (8 * j + k) / 8 = j by omega, show (8 * j + k) % 8 = k by omega]
theorem half_pow (a r : Nat) (hr : r < 8) : a / 2 ^ (8 - r) = a / 2 ^ (7 - r) / 2 := by
  rw [Nat.div_div_eq_div_mul, ← Nat.pow_succ, show (7 - r).succ = 8 - r by omega]
theorem byte_top (a b : Nat) (ha : a < 256) (hb : b < 256) : ∀ r, r ≤ 8 → (∀ k, k < r → a / 2 ^ (7 - k) % 2 = b / 2 ^ (7 - k) % 2) → a / 2 ^ (8 - r) = b / 2 ^ (8 - r)
  | 0, _, _ => by
    rw [Nat.div_eq_of_lt (show a < 2 ^ (8 - 0) from ha), Nat.div_eq_of_lt (show b < 2 ^ (8 - 0) from hb)]
  | r + 1, hr, h => by
    have ih := byte_top a b ha hb r (by omega) (fun k hk => h k (by omega))
    have h1 := h r (by omega)
    rw [half_pow a r (by omega), half_pow b r (by omega)] at ih
    rw [show 8 - (r + 1) = 7 - r by omega]
    omega
theorem byte_less (a b r : Nat) (ha : a < 256) (hb : b < 256) (hr : r < 8) (h : ∀ k, k < r → a / 2 ^ (7 - k) % 2 = b / 2 ^ (7 - k) % 2) (h0 : a / 2 ^ (7 - r) % 2 = 0) (h1 : b / 2 ^ (7 - r) % 2 = 1) : a < b := by
  have h2 := byte_top a b ha hb r (by omega) h
  rw [half_pow a r hr, half_pow b r hr] at h2
  have h3 : a / 2 ^ (7 - r) < b / 2 ^ (7 - r) := by omega
  rcases Nat.lt_or_ge a b with h4 | h4
  · exact h4
  · have := Nat.div_le_div_right (c := 2 ^ (7 - r)) h4
    omega
theorem bit_mono {p q : ByteArray} {d : Nat} (hd : d < 256) (hag : ∀ k, k < d → bitN p k = bitN q k) (h : numP p < numP q) (h1 : bitN p d = 1) : bitN q d = 1 := by
  rcases bitN_two q d with h0 | h0
  · exfalso
    have hb : ∀ j, j < d / 8 → byteN q j = byteN p j := fun j hj => by
      have h2 := byte_top (byteN q j) (byteN p j) (byteN_lt q j) (byteN_lt p j) 8 (by omega) (fun k hk => by
        rw [← bitN_byte q j k hk, ← bitN_byte p j k hk]
        exact (hag _ (by omega)).symm)
      simpa using h2
    have hl : byteN q (d / 8) < byteN p (d / 8) := by
      refine byte_less _ _ (d % 8) (byteN_lt _ _) (byteN_lt _ _) (by omega) (fun k hk => ?_) ?_ ?_
      · rw [← bitN_byte q (d / 8) k (by omega), ← bitN_byte p (d / 8) k (by omega)]
        exact (hag _ (by omega)).symm
      · rw [← bitN_byte q (d / 8) (d % 8) (by omega), show 8 * (d / 8) + d % 8 = d by omega]; exact h0
      · rw [← bitN_byte p (d / 8) (d % 8) (by omega), show 8 * (d / 8) + d % 8 = d by omega]; exact h1
    have := numB_lt _ _ (byteN_lt q) (byteN_lt p) (d / 8) hb hl 32 (by omega)
    unfold numP at h
    omega
  · exact h0
/-- Paths in ascending order, that agree in their first d bits. -/
structure Asc (d : Nat) (S : List ByteArray) : Prop where
  size : ∀ p ∈ S, p.size = 32
  agree : ∀ p ∈ S, ∀ q ∈ S, ∀ k, k < d → bitN p k = bitN q k
  asc : S.Pairwise (fun p q => numP p < numP q)
theorem Asc.tail {d : Nat} {x : ByteArray} {S : List ByteArray} (h : Asc d (x :: S)) : Asc d S where
  size := fun p hp => h.size p (List.mem_cons_of_mem _ hp)
  agree := fun p hp q hq => h.agree p (List.mem_cons_of_mem _ hp) q (List.mem_cons_of_mem _ hq)
  asc := (List.pairwise_cons.1 h.asc).2
theorem Asc.split : ∀ {d : Nat} {S : List ByteArray}, d < 256 → Asc d S → S = sideP 0 d S ++ sideP 1 d S
  | _, [], _, _ => rfl
  | d, x :: S, hd, h => by
    rcases bitN_two x d with hx | hx
    · have e0 : sideP 0 d (x :: S) = x :: sideP 0 d S := by unfold sideP; rw [List.filter_cons_of_pos (by simpa using hx)]
      have e1 : sideP 1 d (x :: S) = sideP 1 d S := by unfold sideP; rw [List.filter_cons_of_neg (by simp [hx])]
      rw [e0, e1, List.cons_append, ← Asc.split hd h.tail]
    · have hall : ∀ y ∈ x :: S, bitN y d = 1 := fun y hy => by
        rcases List.mem_cons.1 hy with rfl | hy
        · exact hx
        · exact bit_mono hd (h.agree x (List.mem_cons_self ..) y (List.mem_cons_of_mem _ hy)) ((List.pairwise_cons.1 h.asc).1 y hy) hx
      have e0 : sideP 0 d (x :: S) = [] := by
        unfold sideP; rw [List.filter_eq_nil_iff]
        intro y hy
        simp [hall y hy]
      have e1 : sideP 1 d (x :: S) = x :: S := by
        unfold sideP; rw [List.filter_eq_self]
        intro y hy
        simp [hall y hy]
      rw [e0, e1, List.nil_append]
theorem Asc.down {d : Nat} {S : List ByteArray} (h : Asc d S) (b : Nat) : Asc (d + 1) (sideP b d S) where
  size := fun p hp => h.size p (sideP_mem.1 hp).1
  agree := fun p hp q hq k hk => by
    rcases Nat.lt_or_ge k d with h1 | h1
    · exact h.agree p (sideP_mem.1 hp).1 q (sideP_mem.1 hq).1 k h1
    · obtain rfl : k = d := by omega
      rw [(sideP_mem.1 hp).2, (sideP_mem.1 hq).2]
  asc := h.asc.sublist List.filter_sublist
theorem range_getD_map (S : List ByteArray) : (List.range S.length).map (fun i => S.getD i .empty) = S := by
  apply List.ext_getElem
  · simp
  · intro i h1 h2
    simp [List.getD, h2]
theorem count_zero (d : Nat) (S : List ByteArray) : (List.range S.length).countP (fun i => !decide (bitN (S.getD i .empty) d = 1)) = (sideP 0 d S).length := by
  have h1 : (List.range S.length).countP (fun i => !decide (bitN (S.getD i .empty) d = 1)) = ((List.range S.length).map (fun i => S.getD i .empty)).countP (fun p => !decide (bitN p d = 1)) := by
    rw [List.countP_map]; rfl
  rw [h1, range_getD_map, List.countP_eq_length_filter]
  unfold sideP
  congr 1
  apply List.filter_congr
  intro p _
  rcases bitN_two p d with h | h <;> simp [h]
/-! The two pieces of a row. -/
theorem info72 : (Tryz.prog.info? 67).map (fun i => i.size) = some 32 := by kernel_rfl
/-- A piece of a row lies in the row's own block. -/
def SameB (a p : Option Addr) : Prop := ∀ q, p = some q → ∃ r, a = some r ∧ q.block = r.block
theorem same_add (a : Option Addr) (k : Nat) : SameB a (a.map fun p => p.add k) := fun q hq => by
  cases a with
  | none => simp at hq
  | some r =>
    simp only [Option.map_some, Option.some.injEq] at hq
    refine ⟨r, rfl, ?_⟩
    rw [← hq]
    unfold Addr.add
    split <;> rfl
theorem front_any (a : Option Addr) (n c k : Nat) (hk : k ≤ c) : ∃ p : Option Addr, (∀ W : World, (Instr.slice 72 (.slice a n c) none (some (.int .i64 (k : Int))) none).run Tryz.prog W = .ok (.slice p k c) W) ∧
    (∀ (W : World) (S : List ByteArray), k ≤ n → Pl W a n S → Pl W p k (S.take k)) ∧ SameB a p := by
  refine ⟨a.map fun p => p.add 0, fun W => ?_, fun W S hkn h => ⟨by have := h.1; rw [List.length_take]; omega, fun hp => ?_⟩, same_add a 0⟩
  · have h := run_slice_h (P := Tryz.prog) W 72 a n c Tryz.underlying72 .i64 (k : Int) (by omega) (by omega)
    rw [h]
    have hz : (sizeOf (Tryz.prog.elem 72)).run Tryz.prog W = .ok 32 W := Tryz.sizeOf67 W
    rw [hz]
    simp only [Result.andThen_ok, sliced]
    congr 2
    by_cases hc1 : c = 0
    · subst hc1; cases a <;> simp [Addr.add]
    · simp [hc1]
  · obtain ⟨b, off, e, hc⟩ := h.2 (by omega)
    subst e
    refine ⟨b, off, by simp [Addr.add], fun j hj => ?_⟩
    have h3 := hc j (by omega)
    have e2 : (S.take k).getD j .empty = S.getD j .empty := by simp [List.getD, hj]
    rw [e2]
    exact h3
theorem behind_any (a : Option Addr) (n c k : Nat) (hn : n ≤ c) (hk : k ≤ n) : ∃ p : Option Addr, (∀ W : World, (Instr.slice 72 (.slice a n c) (some (.int .i64 (k : Int))) none none).run Tryz.prog W = .ok (.slice p (n - k) (c - k)) W) ∧
    (∀ (W : World) (S : List ByteArray), Pl W a n S → Pl W p (n - k) (S.drop k)) ∧ SameB a p := by
  refine ⟨if c = k then a.map (fun p => p.add 0) else a.map (fun p => p.add (k * 32)), fun W => ?_, fun W S h => ⟨by have := h.1; rw [List.length_drop]; omega, fun hp => ?_⟩, by split <;> exact same_add a _⟩
  · have h := run_slice_l (P := Tryz.prog) W 72 a n c Tryz.underlying72 .i64 (k : Int) (by omega) (by omega)
    rw [h]
    have hz : (sizeOf (Tryz.prog.elem 72)).run Tryz.prog W = .ok 32 W := Tryz.sizeOf67 W
    rw [hz]
    simp only [Result.andThen_ok, sliced]
    congr 2
    by_cases hc1 : c = k
    · subst hc1
      cases a <;> simp [Addr.add]
    · have hc2 : ¬ c - k = 0 := by omega
      cases a <;> simp [hc1]
  · obtain ⟨b, off, e, hc⟩ := h.2 (by omega)
    subst e
    have hck : ¬ c = k := by omega
    refine ⟨b, off + k * 32, by simp [hck, Addr.add], fun j hj => ?_⟩
    have h3 := hc (k + j) (by omega)
    have e2 : (S.drop k).getD j .empty = S.getD (k + j) .empty := by simp [List.getD]
    rw [e2, show off + k * 32 + j * 32 = off + (k + j) * 32 by omega]
    exact h3

/-- What children hands back. -/
def KidTo (a : Option Addr) (d : Nat) (S : List ByteArray) (w : World) (e : Ending) (w' : World) : Prop :=
  ∃ (a0 a1 : Option Addr) (c0 c1 : Nat), e = .returned (.tuple #[.slice a0 (sideP 0 d S).length c0, .slice a1 (sideP 1 d S).length c1]) ∧ Pl w' a0 (sideP 0 d S).length (sideP 0 d S) ∧ Pl w' a1 (sideP 1 d S).length (sideP 1 d S) ∧
    (sideP 0 d S).length ≤ c0 ∧ (sideP 1 d S).length ≤ c1 ∧ Below w.heap.size w w' ∧ SameB a a0 ∧ SameB a a1

set_option maxHeartbeats 4000000 in
theorem children_any (a : Option Addr) (n c : Nat) (S : List ByteArray) (d : Nat) (hd : d < 256) (hA : Asc d S) (hn : n ≤ 1000000) (hc : n ≤ c) (w : World) (hP : Pl w a n S) :
    Calls Tryz.prog 45 #[.slice a n c, .int .i64 (d : Int)] w (KidTo a d S w) := by
  have hl := hP.1
  have b1 := (Blk.new w 72 #[.slice a n c]).alloc (.cells #[.int .i64 (d : Int)] 3)
  have b2 := Blk.new (w.alloc (.cells #[.slice a n c] 72)) 3 #[.int .i64 (d : Int)]
  rw [World.size_alloc] at b2
  have B0 := ((Below.refl w.heap.size w).alloc (Nat.le_refl _) (.cells #[.slice a n c] 72)).alloc (by simp) (.cells #[.int .i64 (d : Int)] 3)
  obtain ⟨W, hW⟩ : ∃ W, (w.alloc (.cells #[.slice a n c] 72)).alloc (.cells #[.int .i64 (d : Int)] 3) = W := ⟨_, rfl⟩
  have HW := Lib.hid hW
  rw [hW] at b1 b2 B0
  have hPW := hP.below hA.size B0
  have HS := Lib.hid (Any.sort_Search searchPl 70 #[.pointer (some ⟨w.heap.size, 0, none⟩), .pointer (some ⟨w.heap.size + 1, 0, none⟩)] n (fun i => decide (bitN (S.getD i .empty) d = 1)) W
    (enters_of Tryz.func70 (by kernel_rfl) rfl) (by omega) (fun m os i hi => by
      have hbg := below_grown_sl W.heap.size W m os (Nat.le_refl _)
      obtain ⟨b, off, e, hat⟩ := hPW.2 (by omega)
      have hx1 := (b1.below hbg b1.lt).cell 0
      have hx2 := (b2.below hbg b2.lt).cell 0
      simp only [List.getElem?_toArray, List.getElem?_cons_zero] at hx1 hx2
      rw [e] at hx1
      exact kid1_any b off c n w.heap.size (w.heap.size + 1) S hA.size d hd i hi hn _ hl (fun k hk => (hat k hk).below hbg ((hat k hk).lt (by rw [size_getD hA.size (by omega)]; omega))) hx1 hx2)
    (fun i j hij hj h => by
      rw [decide_eq_true_iff] at h ⊢
      rcases Nat.eq_or_lt_of_le hij with h1 | h1
      · rw [← h1]; exact h
      · have hm : ∀ k, k < n → S.getD k .empty ∈ S := fun k hk => by
          rw [List.getD_eq_getElem?_getD, List.getElem?_eq_getElem (by omega)]; exact List.getElem_mem _
        refine bit_mono hd (hA.agree _ (hm i (by omega)) _ (hm j hj)) ?_ h
        have h2 := List.pairwise_iff_getElem.1 hA.asc i j (by omega) (by omega) h1
        have e : ∀ k (hk : k < S.length), S.getD k .empty = S[k] := fun k hk => by
          rw [List.getD_eq_getElem?_getD, List.getElem?_eq_getElem hk]; rfl
        rw [e i (by omega), e j (by omega)]
        exact h2))
  rw [← hl, count_zero d S] at HS
  have hsp := hA.split hd
  obtain ⟨k, hk⟩ : ∃ k, (sideP 0 d S).length = k := ⟨_, rfl⟩
  have hln : (sideP 0 d S).length + (sideP 1 d S).length = n := by
    have := congrArg List.length hsp
    rw [List.length_append] at this
    omega
  obtain ⟨p0, s0, g0, m0⟩ := front_any a n c k (by omega)
  obtain ⟨p1, s1, g1, m1⟩ := behind_any a n c k hc (by omega)
  have t0 : S.take k = sideP 0 d S := by rw [hsp, List.take_left' hk]; rw [← hsp]
  have t1 : S.drop k = sideP 1 d S := by rw [hsp, List.drop_left' hk]; rw [← hsp]
  have HE := Lib.hid (fun (w' : World) (hb : Below W.heap.size W w') => show KidTo a d S w (.returned (.tuple #[.slice p0 k c, .slice p1 (n - k) (c - k)])) w' from by
    have hPw := hPW.below hA.size hb
    have q0 := g0 w' S (by omega) hPw
    have q1 := g1 w' S hPw
    rw [t0] at q0
    rw [t1] at q1
    refine ⟨p0, p1, c, c - k, by rw [hk, show (sideP 1 d S).length = n - k by omega], by rw [hk]; exact q0, by rw [show (sideP 1 d S).length = n - k by omega]; exact q1, by omega, by omega, B0.trans (hb.mono B0.size), m0, m1⟩)
  rw [hk, hl] at HS
  have B1 := Lib.hid b1
  have hkn : (k : Int) ≤ (n : Int) := by omega
  clear hP hA hsp hln t0 t1 g0 g1 hPW b1 b2 B0 hl hW hk
  go_enter Tryz.func45, Tryz.ntmps45
  go_upto_region 1 with fail
  rw [HW.out]
  have c0 := B1.out.cell 0
  simp only [List.getElem?_toArray, List.getElem?_cons_zero] at c0
  go_wp2_with fail
  refine HS.out.mono ?_
  rintro e w2 ⟨rfl, q, os, hw2⟩
  have HB2 := Lib.hid (show Below W.heap.size W w2 from by rw [hw2]; exact below_grown_sl W.heap.size W q os (Nat.le_refl _))
  clear hw2 c0
  have c0 := (B1.out.below HB2.out B1.out.lt).cell 0
  simp only [List.getElem?_toArray, List.getElem?_cons_zero] at c0
  go_wp2_with fail
  go_quiet (fail)
  go_wp2_with fail
  go_ret2
  exact HE.out _ (below_drewN HB2.out _)
end Go.Proofs.YtnkkckmejjcfkaaGreatDoor.Sp
