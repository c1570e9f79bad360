/- Package trie: paths in ascending order: bytes.Compare over two paths, and the function by which places sorts. -/
import Derived.Test.YtnkkckmejjcfkaaGreatDoorGzO
import Derived.Laws.Externs
import GoSem.Extern.BytealgCompare
import Derived.BigQuiet
import Derived.Deep.QuietTactic
import Derived.Test.YtnkkckmejjcfkaaGreatDoorGzN
import Derived.RangeFuncNested
import Derived.RangeFuncBound
import Derived.RangeFuncCalls
import Derived.RangeFuncLeaves
import Derived.RangeFuncBox
import Derived.Shelf.Abstract
import Derived.Shelf.RegionOpen
import Derived.WalkKit
import Derived.OwnWalkIn
import Derived.TacticsInMore
import Derived.LoopNIn
import Derived.LoopIn
import Derived.RangeFuncFrom
import Derived.Maps.AppendAt
namespace Go.Proofs.YtnkkckmejjcfkaaGreatDoor.Sp
open Go Go.RowKit
set_option maxRecDepth 100000

/-! What comes first. -/
def numB (x : Nat → Nat) : Nat → Nat
  | 0 => 0
  | n + 1 => 256 * numB x n + x n
theorem numB_same (x y : Nat → Nat) : ∀ n, (∀ j, j < n → x j = y j) → numB x n = numB y n
  | 0, _ => rfl
  | n + 1, h => by rw [numB, numB, numB_same x y n (fun j hj => h j (by omega)), h n (by omega)]
theorem numB_lt (x y : Nat → Nat) (hx : ∀ j, x j < 256) (hy : ∀ j, y j < 256) (i : Nat) (hs : ∀ j, j < i → x j = y j) (hi : x i < y i) : ∀ n, i < n → numB x n < numB y n
  | 0, h => absurd h (Nat.not_lt_zero _)
  | n + 1, h => by
    rw [numB, numB]
    rcases Nat.lt_or_ge i n with h1 | h1
    · have := numB_lt x y hx hy i hs hi n h1
      have := hx n
      have := hy n
      omega
    · obtain rfl : i = n := by omega
      rw [numB_same x y i hs]
      omega
def byteN (p : ByteArray) (i : Nat) : Nat := (p.data.toList.getD i 0).toNat
theorem byteN_lt (p : ByteArray) (i : Nat) : byteN p i < 256 := (p.data.toList.getD i 0).toNat_lt
/-- A path as a number. -/
def numP (p : ByteArray) : Nat := numB (byteN p) 32
theorem byteN_get (p : ByteArray) (i : Nat) (h : i < p.size) : p[i]!.toNat = byteN p i := by
  unfold byteN
  rw [getElem!_pos p i h, List.getD_eq_getElem?_getD, List.getElem?_eq_getElem (by rw [size_list]; exact h)]
  rfl
/-- Of two unlike paths the one is the lower one. -/
theorem first_diff : ∀ (n : Nat) (x y : Nat → Nat), (∃ i, i < n ∧ x i ≠ y i) → ∃ i, i < n ∧ x i ≠ y i ∧ ∀ j, j < i → x j = y j
  | 0, _, _, ⟨_, h, _⟩ => absurd h (Nat.not_lt_zero _)
  | n + 1, x, y, ⟨i, hi, hne⟩ => by
    by_cases h : ∃ i, i < n ∧ x i ≠ y i
    · obtain ⟨i, h1, h2, h3⟩ := first_diff n x y h
      exact ⟨i, by omega, h2, h3⟩
    · refine ⟨i, hi, hne, fun j hj => ?_⟩
      rcases Nat.lt_or_ge j n with h1 | h1
      · exact Classical.byContradiction fun hc => h ⟨j, h1, hc⟩
      · omega
theorem numP_inj {p q : ByteArray} (hp : p.size = 32) (hq : q.size = 32) (h : numP p = numP q) : p = q := by
  by_cases hd : ∃ i, i < 32 ∧ byteN p i ≠ byteN q i
  · obtain ⟨i, h1, h2, h3⟩ := first_diff 32 _ _ hd
    exfalso
    rcases Nat.lt_trichotomy (byteN p i) (byteN q i) with h4 | h4 | h4
    · have := numB_lt _ _ (byteN_lt p) (byteN_lt q) i h3 h4 32 h1
      unfold numP at h; omega
    · exact h2 h4
    · have := numB_lt _ _ (byteN_lt q) (byteN_lt p) i (fun j hj => (h3 j hj).symm) h4 32 h1
      unfold numP at h; omega
  · apply list_inj
    apply List.ext_getElem (by rw [size_list, size_list, hp, hq])
    intro i h1 h2
    rw [size_list] at h1 h2
    have e : ∀ (r : ByteArray) (hr : i < r.data.toList.length), r.data.toList[i] = r.data.toList.getD i 0 := fun r hr => by
      rw [List.getD_eq_getElem?_getD, List.getElem?_eq_getElem hr]; rfl
    rw [e p (by rw [size_list]; exact h1), e q (by rw [size_list]; exact h2)]
    apply UInt8.toNat_inj.1
    exact Classical.byContradiction fun hc => hd ⟨i, by omega, hc⟩
/-- What bytes.Compare says of two paths. -/
def cmpP (p q : ByteArray) : Int := Extern.BytealgCompare.cmp p q
theorem cmpP_lt {p q : ByteArray} (hp : p.size = 32) (hq : q.size = 32) : cmpP p q < 0 ↔ numP p < numP q := by
  unfold cmpP Extern.BytealgCompare.cmp
  rw [hp, hq, show min 32 32 = 32 from rfl]
  cases hf : (List.range 32).find? fun i => p[i]! != q[i]! with
  | none =>
    have hall : ∀ i, i < 32 → byteN p i = byteN q i := fun i hi => by
      have h1 := List.find?_eq_none.1 hf i (List.mem_range.2 hi)
      have h2 : p[i]! = q[i]! := by simpa using h1
      rw [← byteN_get p i (by omega), ← byteN_get q i (by omega), h2]
    have e : numP p = numP q := numB_same _ _ 32 hall
    simp [e]
  | some i =>
    have hi : i < 32 := List.mem_range.1 (List.mem_of_find?_eq_some hf)
    have hne : p[i]! ≠ q[i]! := by simpa using List.find?_some hf
    have hb : ∀ j, j < i → byteN p j = byteN q j := fun j hj => by
      obtain ⟨_, xs, ys, h1, h2⟩ := List.find?_eq_some_iff_append.1 hf
      have hl : xs = List.range i := by
        have h3 := congrArg (fun l : List Nat => l[xs.length]?) h1
        simp only [List.getElem?_append_right (Nat.le_refl _), Nat.sub_self, List.getElem?_cons_zero] at h3
        have h4 : xs.length = i := by
          have h5 := List.getElem?_eq_some_iff.1 h3
          obtain ⟨h6, h7⟩ := h5
          simpa using h7
        have h8 := congrArg (List.take xs.length) h1
        rw [List.take_left, h4, List.take_range] at h8
        rw [← h8]
        congr 1
        omega
      have h9 := h2 j (by rw [hl]; exact List.mem_range.2 hj)
      have h10 : p[j]! = q[j]! := by simpa using h9
      rw [← byteN_get p j (by omega), ← byteN_get q j (by omega), h10]
    have hbi : (p[i]! < q[i]!) ↔ byteN p i < byteN q i := by
      rw [← byteN_get p i (by omega), ← byteN_get q i (by omega)]
      exact UInt8.lt_iff_toNat_lt
    have hbn : byteN p i ≠ byteN q i := fun h => hne (by
      apply UInt8.toNat_inj.1
      rw [byteN_get p i (by omega), byteN_get q i (by omega), h])
    by_cases hlt : byteN p i < byteN q i
    · have h1 := numB_lt _ _ (byteN_lt p) (byteN_lt q) i hb hlt 32 hi
      simp only [hbi.2 hlt, if_true]
      exact ⟨fun _ => h1, fun _ => by omega⟩
    · have h1 := numB_lt _ _ (byteN_lt q) (byteN_lt p) i (fun j hj => (hb j hj).symm) (by omega) 32 hi
      have h2 : ¬ p[i]! < q[i]! := fun h => hlt (hbi.1 h)
      simp only [h2, if_false]
      unfold numP
      exact ⟨fun h => by omega, fun h => by omega⟩

/-! The calls. -/
theorem run_loadBytes_at {w : World} {g : Nat} : ∀ (l : List UInt8) (o : Nat) (acc : ByteArray), (∀ j b, l[j]? = some b → w.cell? ⟨g, o + j, none⟩ = some (byteV b)) →
    (Extern.Bytes.loadBytes ⟨g, o, none⟩ l.length acc).run Tryz.prog w = .ok ⟨acc.data ++ l.toArray⟩ w
  | [], _, acc, _ => by
    show Result.ok acc w = _
    congr 1
  | b :: l, o, acc, h => by
    have h0 := h 0 b rfl
    rw [Nat.add_zero] at h0
    have ih := run_loadBytes_at (w := w) (g := g) l (o + 1) (acc.push b) (fun j c hj => by
      have := h (j + 1) c (by simpa using hj)
      rwa [show o + (j + 1) = o + 1 + j by omega] at this)
    have hl : (load ⟨g, o, none⟩).run Tryz.prog w = .ok (byteV b) w := by simp [go_sem, h0]
    show (Extern.Bytes.loadBytes ⟨g, o, none⟩ (l.length + 1) acc).run Tryz.prog w = _
    unfold Extern.Bytes.loadBytes
    rw [Sem.run_bind, hl]
    simp only [Result.andThen]
    have e : ((b.toNat : Int)).toNat.toUInt8 = b := by simp
    unfold byteV
    simp only [e]
    rw [Addr.add_mid, ih]
    congr 1
    apply ByteArray.ext
    simp
theorem run_bytes_at {w : World} {g : Nat} {p : ByteArray} (h : At w g 0 p) (hp : p.size = 32) : (Extern.Bytes.bytesOf (.slice (some ⟨g, 0, none⟩) 32 32)).run Tryz.prog w = .ok p w := by
  have h1 := run_loadBytes_at (w := w) (g := g) p.data.toList 0 .empty (fun j b hj => h j _ (by unfold byteVs; rw [List.getElem?_map, hj]; rfl))
  rw [size_list, hp] at h1
  show (Extern.Bytes.loadBytes ⟨g, 0, none⟩ 32 .empty).run Tryz.prog w = _
  rw [h1]
  congr 1
  apply ByteArray.ext
  simp
theorem run_compare_at {w : World} {g k : Nat} {p q : ByteArray} (h1 : At w g 0 p) (h2 : At w k 0 q) (hp : p.size = 32) (hq : q.size = 32) :
    (Extern.BytealgCompare.compare #[.slice (some ⟨g, 0, none⟩) 32 32, .slice (some ⟨k, 0, none⟩) 32 32]).run Tryz.prog w = .ok (.int .i64 (cmpP p q)) w := by
  show (do pure (goInt (Extern.BytealgCompare.cmp (← Extern.Bytes.bytesOf (.slice (some ⟨g, 0, none⟩) 32 32)) (← Extern.Bytes.bytesOf (.slice (some ⟨k, 0, none⟩) 32 32)))) : Sem Value).run Tryz.prog w = _
  rw [Sem.run_bind, run_bytes_at h1 hp]
  simp only [Result.andThen]
  rw [Sem.run_bind, run_bytes_at h2 hq]
  rfl

set_option maxHeartbeats 1000000 in
theorem bcmp_any (p q : ByteArray) (hp : p.size = 32) (hq : q.size = 32) (g k : Nat) (w : World) (h1 : At w g 0 p) (h2 : At w k 0 q) :
    Calls Tryz.prog 67 #[.slice (some ⟨g, 0, none⟩) 32 32, .slice (some ⟨k, 0, none⟩) 32 32] w fun e w' => e = .returned (.int .i64 (cmpP p q)) ∧ w' = w := by
  have hr := run_compare_at h1 h2 hp hq
  have hx := run_callFunc_extern (P := Tryz.prog) Tryz.func84 (by kernel_rfl) (by kernel_rfl) (by kernel_rfl) (e := Extern.BytealgCompare.compare) (by kernel_rfl) #[.slice (some ⟨g, 0, none⟩) 32 32, .slice (some ⟨k, 0, none⟩) 32 32] w
  rw [hr] at hx
  simp only [Result.andThen] at hx
  clear hr h1 h2
  go_enter Tryz.func67, Tryz.ntmps67
  go_wp2_with fail
  go_ret
  exact ⟨rfl, rfl⟩
end Go.Proofs.YtnkkckmejjcfkaaGreatDoor.Sp

/- Package trie: what places sorts by, and the library's sort over paths. -/
namespace Go.Proofs.YtnkkckmejjcfkaaGreatDoor.Sp
open Go Go.RowKit Go.Lib Go.Sort
set_option maxRecDepth 100000

/-- A path of 32 bytes. -/
abbrev P32 := { p : ByteArray // p.size = 32 }
instance : Inhabited P32 := ⟨⟨cutP .empty, cutP_size _⟩⟩
def encP (x : P32) : List Value := byteVs x.1.data.toList
theorem encP_len (x : P32) : (encP x).length = 32 := len32 x.2
theorem encP_one (x : P32) : ∀ v ∈ encP x, v.oneCell' = true := by
  intro v hv
  unfold encP byteVs at hv
  obtain ⟨b, _, rfl⟩ := List.mem_map.1 hv
  rfl
def cmpQ (x y : P32) : Int := cmpP x.1 y.1
theorem ltQ (x y : P32) : ltOf cmpQ x y = decide (numP x.1 < numP y.1) := by
  unfold ltOf cmpQ
  rw [Bool.eq_iff_iff, decide_eq_true_iff, decide_eq_true_iff]
  exact cmpP_lt x.2 y.2
theorem swoQ : SWO (ltOf cmpQ) where
  irrefl x := by rw [ltQ]; simp
  trans x y z h1 h2 := by rw [ltQ] at *; simp at *; omega
  ntrans x y z h1 h2 := by rw [ltQ] at *; simp at *; omega

set_option maxHeartbeats 2000000 in
theorem less_any (p q : ByteArray) (hp : p.size = 32) (hq : q.size = 32) (W : World) :
    Calls Tryz.prog 66 #[keyV p, keyV q] W fun e w' => e = .returned (.int .i64 (cmpP p q)) ∧ ∃ n os, w' = grow (W.drewN n) os := by
  have A0 := (Blk.new W 67 (byteVs p.data.toList).toArray).alloc (.cells (byteVs q.data.toList).toArray 67)
  have A1 := Blk.new (W.alloc (.cells (byteVs p.data.toList).toArray 67)) 67 (byteVs q.data.toList).toArray
  rw [World.size_alloc] at A1
  have HW := Lib.hid (show (W.alloc (.cells (byteVs p.data.toList).toArray 67)).alloc (.cells (byteVs q.data.toList).toArray 67) = grow W #[.cells (byteVs p.data.toList).toArray 67, .cells (byteVs q.data.toList).toArray 67] from by
    rw [alloc_eq_grow, alloc_eq_grow, grow_grow]; rfl)
  have HC := Lib.hid (fun n => bcmp_any p q hp hq W.heap.size (W.heap.size + 1) (((W.alloc (.cells (byteVs p.data.toList).toArray 67)).alloc (.cells (byteVs q.data.toList).toArray 67)).drewN n) (At.of_blk (A0.drewN n)) (At.of_blk (A1.drewN n)))
  unfold keyV
  obtain ⟨cs, hcs⟩ : ∃ cs, (byteVs p.data.toList).toArray = cs := ⟨_, rfl⟩
  obtain ⟨ds, hds⟩ : ∃ ds, (byteVs q.data.toList).toArray = ds := ⟨_, rfl⟩
  obtain ⟨c, hc⟩ : ∃ c, cmpP p q = c := ⟨_, rfl⟩
  rw [hcs, hds] at HW
  rw [hcs, hds, hc] at HC
  rw [hcs, hds, hc]
  clear A0 A1 hcs hds hc
  go_enter Tryz.func66, Tryz.ntmps66
  go_upto_region 1 with fail
  obtain ⟨W2, hW2⟩ : ∃ W2, (W.alloc (.cells cs 67)).alloc (.cells ds 67) = W2 := ⟨_, rfl⟩
  rw [hW2] at HW HC
  rw [hW2]
  clear hW2
  go_quiet ((go_at_call 67; refine Calls.quiet_of_same (HC.out _)))
  go_wp2_with fail
  go_ret
  exact ⟨rfl, nq, #[.cells cs 67, .cells ds 67], by rw [HW.out]; rfl⟩
theorem lessLays (blk off size : Nat) (w : World) : CmpLays Tryz.prog 66 #[] encP 32 cmpQ blk off size w :=
  fun _ _ _ _ x y => less_any x.1 y.1 x.2 y.2 _

/-- Paths in a row, one behind the other. -/
theorem sort_any (blk cap : Nat) (d : Array P32) (w : World) (hH : HoldsK encP 32 w blk 0 d) (hblk : blk < w.heap.size) (hsz : d.size < 4611686018427387904) :
    Calls Tryz.prog 82 #[.slice (some ⟨blk, 0, none⟩) d.size cap, .func (.func 66) #[] #[]] w fun e w' =>
      e = .returned (.tuple #[]) ∧ ∃ d' n os, PermIn 0 d.size d d' ∧ SortedIn (ltOf cmpQ) 0 d.size d' ∧ w' = sortWorldK encP 32 w blk 0 n d' os :=
  AnyQ.slices_SortFunc sortPl 32 Tryz.isAgg67 Tryz.sizeOf67 encP encP_len encP_one cmpQ swoQ 66 #[] blk 0 cap d w
    (enters_of Tryz.func66 (by kernel_rfl) rfl) (lessLays blk 0 d.size w) hH hblk hsz
end Go.Proofs.YtnkkckmejjcfkaaGreatDoor.Sp

/- The library's maps.Keys over a map of paths: whatever the loop's body is, it is handed each path once, in whatever order. -/
namespace Go.Proofs.YtnkkckmejjcfkaaGreatDoor.Sp
open Go Go.RowKit Go.Shelf
attribute [local go_sem] Oper.semAt_some
set_option maxRecDepth 100000

set_option maxHeartbeats 1000000 in
/-- maps.Keys: the map is boxed; the function captures the box. -/
theorem mkeys_any (mb : Option Nat) (w : World) :
    Calls Tryz.prog 65 #[.map mb] w fun e w' =>
      e = .returned (.func (.func 83) #[] #[.pointer (some ⟨w.heap.size, 0, none⟩)]) ∧ w' = w.alloc (.cells #[.map mb] 55) := by
  go_enter Tryz.func65, Tryz.ntmps65
  go_wp2_with fail
  go_ret
  exact ⟨rfl, rfl⟩

set_option maxHeartbeats 4000000 in
theorem keys1_any (F : Fence) (n : Nat) (hF : F.fn 83) (hro : F.round = none) (hn : 1 ≤ n) (l Bm b : Nat) (E : List Ent) (hE : FitT E) (J Jx : List P32 → World → Prop)
    (hY : ∀ pre (x : P32) W, J pre W → pre.length < E.length → YieldAt F (n - 1) Tryz.prog l #[keyV x.1] W fun e W' =>
      (e = .returned (.bool true) ∧ J (pre ++ [x]) W' ∧ KeepsWalks W W') ∨ (e = .returned (.bool false) ∧ Jx (pre ++ [x]) W'))
    (W : World) (hJ : AbidesFrom W.heap.size J) (hm : W.cell? ⟨Bm, 0, none⟩ = some (.map (some b))) (hM : Mp W b E) (h0 : J [] W) :
    CallsIn F n Tryz.prog 83 #[.func (.yield l) #[] #[], .pointer (some ⟨Bm, 0, none⟩)] W fun e W' => (∃ v, e = .returned v) ∧
      ((∃ ys : List P32, (ys.map Subtype.val).Perm (E.map Prod.fst) ∧ J ys W') ∨ (∃ pre, Jx pre W')) := by
  have HE := Lib.hid hE
  have HM := Lib.hid hM
  have HJ := Lib.hid hJ
  have HJ0 := Lib.hid h0
  clear hE hM hJ h0
  refine callsIn_of_wp Tryz.func83 rfl hF ?_ hro
  simp only [Tryz.ntmps83, List.size_toArray, List.length_cons, List.length_nil, Nat.reduceAdd, Nat.reduceSub, Array.replicate_succ, Array.replicate_zero, List.push_toArray, List.append_toArray, List.nil_append, List.cons_append]
  gi_wp2_with (first
    | (gi_at_range; refine wpListIn_range_rg _ rfl (.tmp 4) rfl b E rfl HM.out ?_; intro w0 hrg0 hg0 hs0)
    | gi_in)
  go_frame
  have R0 := Lib.hid hrg0
  have J0 := Lib.hid (HJ.out [] W w0 none HJ0.out hg0 (fun r e => by cases e))
  clear hrg0 hg0 hs0
  obtain ⟨r, hr⟩ : ∃ r, W.heap.size = r := ⟨_, rfl⟩
  rw [hr] at R0 HJ ⊢
  have HR := Lib.hid hr
  clear hr
  gi_loopw [3] (fun _ wr => ∃ (done : List Ent) (ys : List P32), Rg wr b r E done ∧ ys.map Subtype.val = done.map Prod.fst ∧ J ys wr) (fun _ wr => wr.rangeLeft b r)
  case atStart => exact ⟨[], [], R0.out, rfl, J0.out⟩
  case round =>
    obtain ⟨done, ys, hrg, hys, hJs⟩ := hrel
    have RG := Lib.hid hrg
    have HYs := Lib.hid hys
    have HJs := Lib.hid hJs
    clear hrg hys hJs
    gi_wp2_with (first
      | (gi_at_next; refine wpListIn_next_rg _ rfl (.tmp 5) rfl b r E done HE.out rfl RG.out ?_ ?_)
      | gi_in)
    · intro hperm
      have HP := Lib.hid (show (ys.map Subtype.val).Perm (E.map Prod.fst) from by rw [HYs.out]; exact hperm.map _)
      clear hperm
      gi_wp2
      go_end0
      exact ⟨⟨_, rfl⟩, .inl ⟨ys, HP.out, HJs.out⟩⟩
    · intro p v w2 hp hin hrg2 hlt hg2 hs2 hen
      obtain ⟨x, hx⟩ : ∃ x : P32, x = ⟨p, hp⟩ := ⟨_, rfl⟩
      have RG2 := Lib.hid hrg2
      have HLt := Lib.hid hlt
      have J2 := HJ.out ys wr w2 (some r) HJs.out hg2 (fun k e => by cases e; exact ⟨Nat.le_refl _, RG.out.iter_walk⟩)
      have hkv : keyV p = .agg (byteVs p.data.toList).toArray := rfl
      obtain ⟨L, hL⟩ : ∃ L, byteVs p.data.toList = L := ⟨_, rfl⟩
      have hlen : L.length = 32 := by rw [← hL, len32 hp]
      have hone : L.toArray.all (·.oneCell') = true := by rw [← hL]; exact bytes_one _
      rw [hL] at hkv
      have hinf : (Tryz.prog.info? 67).map (·.size) = some L.length := by rw [hlen]; exact cells32
      have HAt := Lib.hid (show (w2.alloc (.cells L.toArray 67)).rangeAt w2.heap.size 0 L from by
        intro j u hj
        rw [(Blk.new w2 67 L.toArray).cell, Nat.zero_add, List.getElem?_toArray]; exact hj)
      have J3 := HJ.out ys w2 (w2.alloc (.cells L.toArray 67)) none J2 (World.grownBy_alloc w2 _ none) (fun k e => by cases e)
      have hdl : done.length < E.length := by
        have h1 := RG2.out.count
        rw [List.length_append] at h1
        simp at h1
        omega
      have hyl : ys.length < E.length := by
        have h1 := congrArg List.length HYs.out
        rw [List.length_map, List.length_map] at h1
        omega
      obtain ⟨fn, tmps, assign, body, hy, hR⟩ := hY ys x _ J3 hyl
      rw [show keyV x.1 = .agg L.toArray from by rw [hx]; exact hkv] at hy
      rw [hkv] at hen ⊢
      have HX := Lib.hid hx
      have HK3 := Lib.hid (KeepsWalks.alloc w2 (.cells L.toArray 67))
      clear hs2 hg2 hin hlt hrg2 J2 J3 hkv hL hdl hyl hx
      gi_wp2_with (first
        | (refine wpListIn_store_new _ rfl 67 (.tmp 3) (.tmp 9) rfl _ L.toArray rfl rfl hinf (by rw [show L.toArray.size = 32 from hlen]; rfl) hone ?_)
        | (refine wpListIn_load_mid _ rfl 67 (.tmp 3) rfl w2.heap.size 0 rfl L _ HAt.out Tryz.underlying67 rfl hinf ?_)
        | gi_in)
      refine hR.mono ?_
      rintro e W3 (⟨rfl, hJ3, hk3⟩ | ⟨rfl, hJx3⟩)
      · have HJ3 := Lib.hid hJ3
        have HRg := Lib.hid (RG2.out.of_walks (HK3.out.trans hk3))
        clear hJ3 hk3
        gi_wp2
        go_roundw
        case rel => exact ⟨done ++ [(p, v)], ys ++ [x], HRg.out.1, by rw [List.map_append, List.map_append, HYs.out, HX.out]; rfl, HJ3.out⟩
        case measure => rw [HRg.out.2]; exact HLt.out
      · gi_wp2
        refine bodyPost_ret (results_none rfl _ _ _) rfl ?_
        exact ⟨⟨_, rfl⟩, .inr ⟨_, hJx3⟩⟩
end Go.Proofs.YtnkkckmejjcfkaaGreatDoor.Sp

/- The library's slices.Collect over an iterator that hands over paths: a new slice of just these. -/
namespace Go.Proofs.YtnkkckmejjcfkaaGreatDoor.Sp
open Go Go.RowKit Go.Shelf
attribute [local go_sem] Oper.semAt_some
set_option maxRecDepth 100000

theorem infoPl : (Tryz.prog.info? 67).map (fun i => (i.zero, i.size, i.bytes)) = some (some (.agg #[.int .u8 0, .int .u8 0, .int .u8 0, .int .u8 0, .int .u8 0, .int .u8 0, .int .u8 0, .int .u8 0, .int .u8 0, .int .u8 0, .int .u8 0, .int .u8 0, .int .u8 0, .int .u8 0, .int .u8 0, .int .u8 0, .int .u8 0, .int .u8 0, .int .u8 0, .int .u8 0, .int .u8 0, .int .u8 0, .int .u8 0, .int .u8 0, .int .u8 0, .int .u8 0, .int .u8 0, .int .u8 0, .int .u8 0, .int .u8 0, .int .u8 0, .int .u8 0]), 32, 32) := by kernel_rfl
/-- Paths as cells, one behind the other. -/
def flatP (ys : List P32) : List Value := ys.flatMap encP
theorem flatP_snoc (ys : List P32) (x : P32) : flatP (ys ++ [x]) = flatP ys ++ encP x := by unfold flatP; rw [List.flatMap_append]; simp
theorem flatP_len : ∀ ys : List P32, (flatP ys).length = ys.length * 32
  | [] => rfl
  | y :: ys => by
    show (encP y ++ flatP ys).length = _
    rw [List.length_append, encP_len, flatP_len ys, List.length_cons]; omega

theorem fold_sets : ∀ (L : List Value) (i : Nat) (acc : Array Value), i + L.length ≤ acc.size →
    (List.foldl (fun cs (x : Value × Nat) => cs.setIfInBounds x.snd x.fst) acc (L.zipIdx i)).toList = acc.toList.take i ++ L ++ acc.toList.drop (i + L.length)
  | [], i, acc, _ => by simp
  | v :: L, i, acc, h => by
    rw [List.length_cons] at h
    rw [List.zipIdx_cons, List.foldl_cons, fold_sets L (i + 1) _ (by rw [Array.size_setIfInBounds]; omega), Array.toList_setIfInBounds]
    have hi : i < acc.toList.length := by rw [Array.length_toList]; omega
    rw [List.take_set, List.take_succ_eq_append_getElem hi, List.set_append_right _ _ (by rw [List.length_take]; omega), List.length_take, Nat.min_eq_left (by omega), Nat.sub_self, List.set_cons_zero,
      List.drop_set_of_lt (by omega), List.length_cons, show i + 1 + L.length = i + (L.length + 1) by omega]
    simp
theorem fold32 (L : List Value) (h : L.length = 32) : List.foldl (fun cs (x : Value × Nat) => cs.setIfInBounds x.snd x.fst) #[.int .u8 0, .int .u8 0, .int .u8 0, .int .u8 0, .int .u8 0, .int .u8 0, .int .u8 0, .int .u8 0, .int .u8 0, .int .u8 0, .int .u8 0, .int .u8 0, .int .u8 0, .int .u8 0, .int .u8 0, .int .u8 0, .int .u8 0, .int .u8 0, .int .u8 0, .int .u8 0, .int .u8 0, .int .u8 0, .int .u8 0, .int .u8 0, .int .u8 0, .int .u8 0, .int .u8 0, .int .u8 0, .int .u8 0, .int .u8 0, .int .u8 0, .int .u8 0] L.zipIdx = L.toArray := by
  apply Array.toList_inj.1
  rw [fold_sets L 0 _ (by rw [h]; decide), h]
  show ([] : List Value) ++ L ++ [] = L
  simp

/-- What the iterator does. -/
theorem keys_stops (n : Nat) (hn : 1 ≤ n) (Bm b : Nat) (E : List Ent) (hE : FitT E) (w : World) (hB : Blk w Bm 55 #[.map (some b)]) (hM : Mp w b E) :
    SeqStopsK Fence.wide n Tryz.prog 83 #[.pointer (some ⟨Bm, 0, none⟩)] (fun x : P32 => #[keyV x.1]) KeepsWalks
      (fun ys => (ys.map Subtype.val).Perm (E.map Prod.fst)) (fun _ => True) E.length w := fun l J Jx W hW hJ _ hY h0 => by
  have c0 := (hB.below hW hB.lt).cell 0
  simp only [List.getElem?_toArray, List.getElem?_cons_zero] at c0
  refine (keys1_any Fence.wide n trivial rfl hn l Bm b E hE J Jx hY W hJ c0 (hM.keep (hW.block b hM.lt)) h0).mono ?_
  rintro e W' ⟨he, ⟨ys, hys, hJ2⟩ | ⟨pre, hJ2⟩⟩
  · exact ⟨he, .inl ⟨ys, hys, hJ2⟩⟩
  · exact ⟨he, .inr ⟨pre, trivial, hJ2⟩⟩

set_option maxHeartbeats 2000000 in
theorem appseq_any (n : Nat) (hn : 3 ≤ n) (g : Nat) (lb : Array Value) (eg : ∀ args w, (callFunc g args).run Tryz.prog w = .ok (.enter g args) w) (S : List P32 → Prop) (N : Nat) (hN : N ≤ 1000000) (w : World)
    (hseq : SeqStopsK Fence.wide (n - 1) Tryz.prog g lb (fun x : P32 => #[keyV x.1]) KeepsWalks S (fun _ => True) N w) :
    CallsIn Fence.wide n Tryz.prog 91 #[.slice none 0 0, .func (.func g) #[] lb] w fun e w' => ∃ (v : Value) (ys : List P32), e = .returned v ∧ S ys ∧
      w'.ownsRow w.heap.size 67 32 v ys.length (flatP ys) ∧ (v = .slice none 0 0 ↔ ys = []) ∧ Below w.heap.size w w' := by
  refine callsIn_of_wp_marks Tryz.func91 rfl trivial ?_ rfl
  simp only [Tryz.ntmps91, List.size_toArray, List.length_cons, List.length_nil, Nat.reduceAdd, Nat.reduceSub, Array.replicate_succ, Array.replicate_zero, List.push_toArray, List.append_toArray, List.nil_append, List.cons_append]
  gi_wp2
  obtain ⟨W0, hW0⟩ : ∃ W0, w.alloc (.cells #[.slice none 0 0] 72) = W0 := ⟨_, rfl⟩
  have b0 : Boxed W0 w.heap.size 72 (.slice none 0 0) := by rw [← hW0]; exact Boxed.new w _ _
  have hB0 : Below w.heap.size w W0 := by rw [← hW0]; exact (Below.refl _ _).alloc (Nat.le_refl _) _
  have hs0 : W0.heap.size = w.heap.size + 1 := by rw [← hW0]; simp
  rw [hW0]
  have hne : 72 ≠ (67 : TypeId) := by decide
  refine wpIn_rangeFunc_ownH (F := Fence.wide) (n := n) (P := Tryz.prog) (w := W0) (w0 := w) (encs := (fun x : P32 => #[keyV x.1])) (Kp := KeepsWalks) (S := S) (Sp := (fun _ => True)) (N := N) rfl (by omega) (gf := g) (lb := lb) rfl trivial eg hseq walksK_t walksK_b hB0 (fun _ => rfl)
    (fun pre W => (∃ v, Boxed W w.heap.size 72 v ∧ W.ownsRow w.heap.size 67 32 v pre.length (flatP pre) ∧ (v = .slice none 0 0 ↔ pre = [])) ∧ Below w.heap.size w W)
    (fun _ _ _ => False) ?own ?ownx ?zero
    (fun x a' W => ∃ Bx, W0.heap.size ≤ Bx ∧ Blk W Bx 67 (encP x).toArray ∧ a' = { tmps := #[.slice none 0 0, .func (.func g) #[] lb, .pointer (some ⟨w.heap.size, 0, none⟩), undef, .slice none 0 0, .pointer (some ⟨Bx, 0, none⟩), .func (.func g) #[] lb, keyV x.1, undef, undef, undef, undef, undef], defers := [] })
    ?ax ?assign ?body ?done ?stop
  case own => exact OwnFrom.and (Own.from (holdsRow_own w.heap.size w.heap.size 72 67 32 (fun pre : List P32 => pre.length) flatP (fun pre v => (v = .slice none 0 0 ↔ pre = []))) _) (ownFrom_below (Nat.le_refl _) (by omega))
  case ownx => exact (fun _ _ _ _ _ hs _ _ => hs.elim)
  case zero => exact ⟨⟨_, b0, World.ownsRow_nil _ _ _ _, by simp⟩, hB0⟩
  case ax =>
    intro x a' s A B row hs hg hr
    obtain ⟨Bx, h1, h2, h3⟩ := hs
    refine ⟨Bx, h1, h2.grown hg (fun e => ?_), h3⟩
    obtain ⟨_, o, ho, hc⟩ := hr Bx e.symm
    rw [show A.heap[Bx]? = _ from h2] at ho
    cases ho
    cases hc
  case assign =>
    rintro l pre x W K ⟨⟨v, hb, hr, hnil⟩, hB⟩ hK
    have hkv : keyV x.1 = .agg (encP x).toArray := rfl
    have hlen := encP_len x
    have hone : (encP x).toArray.all (·.oneCell') = true := bytes_one _
    obtain ⟨L, hL⟩ : ∃ L, encP x = L := ⟨_, rfl⟩
    rw [hL] at hkv hlen hone
    have hinf : (Tryz.prog.info? 67).map (·.size) = some L.length := by rw [hlen]; exact cells32
    have HK := Lib.hid hK
    have Hb := Lib.hid hb
    have Hr := Lib.hid hr
    have Hn := Lib.hid hnil
    have HB := Lib.hid hB
    have HL := Lib.hid hL
    have HkV := Lib.hid hkv
    clear hK hb hr hnil hB hL
    simp only [hkv]
    clear hkv
    gi_wp2_with (first
      | (refine wpListIn_store_new _ rfl 67 (.tmp 5) (.tmp 7) rfl _ L.toArray rfl rfl hinf (by rw [show L.toArray.size = 32 from hlen]; rfl) hone ?_)
      | gi_in)
    refine HK.out _ _ ((KeepsOthers.alloc W _).from _) (KeepsWalks.alloc W _) ⟨⟨v, Hb.out.alloc _, Hr.out.alloc _, Hn.out⟩, HB.out.alloc HB.out.size _⟩ ⟨W.heap.size, ?_, ?_, ?_⟩
    · rw [hs0]; exact Hb.out.lt
    · rw [HL.out]; exact Blk.new W _ _
    · rw [HkV.out]; rfl
  case body =>
    rintro l pre x a' W hl ⟨rl, hrl⟩ ⟨⟨v, hb, hr, hnil⟩, hB⟩ ⟨Bx, hBx, hX, rfl⟩ hpl
    have hkv : keyV x.1 = .agg (encP x).toArray := rfl
    have hlen := encP_len x
    have hsn := Lib.hid (flatP_snoc pre x)
    have hone : ∀ u ∈ encP x, u.oneCell' = true := encP_one x
    obtain ⟨L, hL⟩ : ∃ L, encP x = L := ⟨_, rfl⟩
    rw [hL] at hkv hlen hone hsn hX
    have hinf : (Tryz.prog.info? 67).map (·.size) = some L.length := by rw [hlen]; exact cells32
    have HAt := Lib.hid (show W.rangeAt Bx 0 L from by
      intro j u hj
      rw [hX.cell, Nat.zero_add, List.getElem?_toArray]; exact hj)
    obtain ⟨i0, hi0, hz0, hz1, hz2⟩ := info_parts infoPl
    have hc0 := hb.cell
    have hf0 := hb.frozen
    have hbz := hB.size
    have HB := Lib.hid hB
    have Hb := Lib.hid hb
    have Hr := Lib.hid hr
    obtain ⟨m, hm⟩ : ∃ m, pre.length = m := ⟨_, rfl⟩
    obtain ⟨Xs, eXs⟩ : ∃ Xs, flatP pre = Xs := ⟨_, rfl⟩
    have HX := Lib.hid (And.intro hm eXs)
    have Hrk := Lib.hid (show W.ownsRow w.heap.size 67 32 v m Xs from by rw [← hm, ← eXs]; exact hr)
    have hk8 : m + 1 ≤ maxLen := by unfold maxLen; omega
    have hkb : (m + 1) * 32 ≤ 140737488355328 := by omega
    have hfold := fold32 L hlen
    clear hb hr hB hnil hL hX hm eXs hrl hW0 b0 hB0
    simp only [hkv]
    clear hkv
    gi_wp2_with (first
      | (refine wpListIn_load_mid _ rfl 67 (.tmp 5) rfl Bx 0 rfl L _ HAt.out Tryz.underlying67 rfl hinf ?_)
      | (gi_at_builtin; refine wpListIn_append_own _ rfl (.tmp 8) (.tmp 10) 72 rfl w.heap.size 67 i0 _ 32 32 Tryz.underlying72 hi0 hz0 hz1 hz2 rfl (by decide) v m Xs rfl (Hrk.out.alloc _) ⟨W.heap.size, 0, none⟩ 1 1 L rfl hlen (fun j u hj => new_cell _ _ _ hj) hone hk8 hkb (by simp; omega) ?_; intro v' w1 hown' hgrow _; obtain ⟨g', cap', rfl⟩ := ownsRow_succ hown'; have happ := Boxed.appended Hb.out hne Hrk.out hbz (Nat.le_refl _) hown' hgrow; have hc1 := happ.1.cell; have hf1 := happ.1.frozen; have HA := Lib.hid happ.2; clear happ hown' hgrow)
      | gi_in)
    refine ⟨HA.out.2.2.1.from _, HA.out.2.2.1.walks, ⟨_, HA.out.1, ?_, by simp⟩, HB.out.trans HA.out.2.2.2⟩
    rw [hsn.out, List.length_append, List.length_singleton, HX.out.1, HX.out.2]
    exact HA.out.2.1
  case done =>
    rintro D ys W hD hS ⟨⟨v, hb, hr, hnil⟩, hB⟩ hK
    have hc0 := hb.cell
    gi_wp2
    refine ⟨by simp, .inl ⟨_, _, rfl, run_takeDeferred hK, ?_⟩⟩
    exact ⟨_, results_tmp rfl _ _ _, v, ys, rfl, hS, ownsRow_putObj hr _ hK rfl, hnil, hB.trans (belowK_b (w := w) (Nat.le_refl _) W D _ _ (by omega) hK rfl rfl)⟩
  case stop =>
    rintro D c pre W _ _ h _
    exact h.elim
end Go.Proofs.YtnkkckmejjcfkaaGreatDoor.Sp
