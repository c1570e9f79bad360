/- Plain SHA-256 over lists of bytes: the functions that the contracts of package sha and of the document's own answer come to; no program is named here. -/
import Derived.WalkKit
import Derived.Test.YtnkkckmejjcfkaaGreatDoorProg
import Derived.Below
import Derived.Laws.OwnMore
import Derived.Laws.IdiomStrings
import Derived.Laws.BytesArg
import Derived.Deep.AppendLies
import Derived.Deep.Draws
import Derived.Deep.QuietTactic
import Derived.BigQuiet
import Derived.Outline
import Derived.Lib.Hide
import Derived.Lib.Strings
import Derived.Lib.IndexBytes
import Derived.WalkSpells
import Derived.Lib.AppendStr
import Derived.RegionTactic
import Derived.Laws.ResultCell
namespace Go.Proofs.YtnkkckmejjcfkaaGreatDoor.Sp

abbrev W := BitVec 32

def rotr (x : W) (n : Nat) : W := x >>> n ||| x <<< (32 - n)
/-- The i-th word of a list. -/
def gW (l : List W) (i : Nat) : W := l.getD i 0
def ss0 (x : W) : W := rotr x 7 ^^^ rotr x 18 ^^^ x >>> 3
def ss1 (x : W) : W := rotr x 17 ^^^ rotr x 19 ^^^ x >>> 10
def bs0 (x : W) : W := rotr x 2 ^^^ rotr x 13 ^^^ rotr x 22
def bs1 (x : W) : W := rotr x 6 ^^^ rotr x 11 ^^^ rotr x 25
def ch (x y z : W) : W := x &&& y ^^^ ~~~x &&& z
def maj (x y z : W) : W := x &&& y ^^^ x &&& z ^^^ y &&& z

structure St where
  a : W
  b : W
  c : W
  d : W
  e : W
  f : W
  g : W
  h : W

def kN : List Nat := [
  0x428a2f98, 0x71374491, 0xb5c0fbcf, 0xe9b5dba5, 0x3956c25b, 0x59f111f1, 0x923f82a4, 0xab1c5ed5,
  0xd807aa98, 0x12835b01, 0x243185be, 0x550c7dc3, 0x72be5d74, 0x80deb1fe, 0x9bdc06a7, 0xc19bf174,
  0xe49b69c1, 0xefbe4786, 0x0fc19dc6, 0x240ca1cc, 0x2de92c6f, 0x4a7484aa, 0x5cb0a9dc, 0x76f988da,
  0x983e5152, 0xa831c66d, 0xb00327c8, 0xbf597fc7, 0xc6e00bf3, 0xd5a79147, 0x06ca6351, 0x14292967,
  0x27b70a85, 0x2e1b2138, 0x4d2c6dfc, 0x53380d13, 0x650a7354, 0x766a0abb, 0x81c2c92e, 0x92722c85,
  0xa2bfe8a1, 0xa81a664b, 0xc24b8b70, 0xc76c51a3, 0xd192e819, 0xd6990624, 0xf40e3585, 0x106aa070,
  0x19a4c116, 0x1e376c08, 0x2748774c, 0x34b0bcb5, 0x391c0cb3, 0x4ed8aa4a, 0x5b9cca4f, 0x682e6ff3,
  0x748f82ee, 0x78a5636f, 0x84c87814, 0x8cc70208, 0x90befffa, 0xa4506ceb, 0xbef9a3f7, 0xc67178f2]
def kW (i : Nat) : W := BitVec.ofNat 32 (kN.getD i 0)

def st0 : St := ⟨0x6a09e667#32, 0xbb67ae85#32, 0x3c6ef372#32, 0xa54ff53a#32, 0x510e527f#32, 0x9b05688c#32, 0x1f83d9ab#32, 0x5be0cd19#32⟩

def round (s : St) (k w : W) : St :=
  let t := s.h + bs1 s.e + ch s.e s.f s.g + k + w
  let u := bs0 s.a + maj s.a s.b s.c
  ⟨t + u, s.a, s.b, s.c, s.d + t, s.e, s.f, s.g⟩

/-- The state behind the first n rounds. -/
def rounds (w : List W) : Nat → St → St
  | 0, s => s
  | n + 1, s => round (rounds w n s) (kW n) (gW w n)

def St.add (s t : St) : St := ⟨s.a + t.a, s.b + t.b, s.c + t.c, s.d + t.d, s.e + t.e, s.f + t.f, s.g + t.g, s.h + t.h⟩

/-- Four bytes from place 4 i on. -/
def byteW (b : UInt8) : W := BitVec.ofNat 32 b.toNat
def word (l : List UInt8) (i : Nat) : W := byteW (l.getD (4 * i) 0) <<< 24 ||| byteW (l.getD (4 * i + 1) 0) <<< 16 ||| byteW (l.getD (4 * i + 2) 0) <<< 8 ||| byteW (l.getD (4 * i + 3) 0)

def words (l : List UInt8) (n : Nat) : List W := (List.range n).map (word l)

def next (w : List W) (i : Nat) : W := ss1 (gW w (i - 2)) + gW w (i - 7) + ss0 (gW w (i - 15)) + gW w (i - 16)

/-- The schedule's first 16 + n words. -/
def sched (l : List UInt8) : Nat → List W
  | 0 => words l 16
  | n + 1 => sched l n ++ [next (sched l n) (16 + n)]

def compress (s : St) (l : List UInt8) : St := s.add (rounds (sched l 48) 64 s)

/-- The last byte of a word. -/
def lowB (x : W) : UInt8 := UInt8.ofNat x.toNat
def bytes4 (x : W) : List UInt8 := [lowB (x >>> 24), lowB (x >>> 16), lowB (x >>> 8), lowB x]

def St.ws (s : St) : List W := [s.a, s.b, s.c, s.d, s.e, s.f, s.g, s.h]
def St.of (l : List W) : St := ⟨gW l 0, gW l 1, gW l 2, gW l 3, gW l 4, gW l 5, gW l 6, gW l 7⟩
def encode (s : St) : List UInt8 := s.ws.flatMap bytes4
def decode (l : List UInt8) : St := St.of (words l 8)

def absorb : Nat → St → List UInt8 → St
  | 0, s, _ => s
  | n + 1, s, l => absorb n (compress s (l.take 64)) (l.drop 64)

def zeros (n : Nat) : Nat := (64 - (n % 64 + 9) % 64) % 64
def pad (n : Nat) : List UInt8 := [128] ++ List.replicate (zeros n) 0 ++ bytes4 (BitVec.ofNat 32 (8 * n / 4294967296)) ++ bytes4 (BitVec.ofNat 32 (8 * n))

def padded (s : List UInt8) : List UInt8 := s ++ pad s.length
def sum (s : List UInt8) : List UInt8 := encode (absorb ((padded s).length / 64) st0 (padded s))

def block (state blk : List UInt8) : List UInt8 := if state.length = 32 ∧ blk.length = 64 then encode (compress (decode state) blk) else []

def input (d : UInt8) (parts : List (List UInt8)) : List UInt8 := d :: parts.flatMap fun p => bytes4 (BitVec.ofNat 32 p.length) ++ p

theorem bytes4_len (x : W) : (bytes4 x).length = 4 := rfl
theorem flatMap4_length (l : List W) : (l.flatMap bytes4).length = 4 * l.length := by
  induction l with
  | nil => rfl
  | cons x l ih => simp [List.flatMap_cons, ih, bytes4_len]; omega
theorem encode_length (s : St) : (encode s).length = 32 := by unfold encode; rw [flatMap4_length]; rfl


end Go.Proofs.YtnkkckmejjcfkaaGreatDoor.Sp

/- Words of 32 bits as the walk spells them: sums, shifts and bit operations of unsigned 32-bit integers, read back as bit vectors. -/
namespace Go.Proofs.YtnkkckmejjcfkaaGreatDoor.Sp
open Go
set_option maxRecDepth 100000

/-- A word as the integer that the walk shows. -/
def U (x : W) : Int := (x.toNat : Int)
theorem U_lo (x : W) : 0 ≤ U x := by unfold U; omega
theorem U_hi (x : W) : U x < 4294967296 := by unfold U; have := x.isLt; omega
theorem U_toNat (x : W) : (U x).toNat = x.toNat := by unfold U; omega
theorem U_inj {x y : W} (h : U x = U y) : x = y := BitVec.eq_of_toNat_eq (by unfold U at h; omega)

theorem wrap_u32_nat (n : Nat) : IntKind.u32.wrap (n : Int) = U (BitVec.ofNat 32 n) := by
  rw [IntKind.wrap_u32']; unfold U; rw [BitVec.toNat_ofNat]; omega
theorem add_U (x y : W) : IntKind.u32.wrap (U x + U y) = U (x + y) := by
  have : U x + U y = ((x.toNat + y.toNat : Nat) : Int) := by unfold U; omega
  rw [this, wrap_u32_nat]; congr 1
theorem xor_U (x y : W) : bits .xor .u32 (U x) (U y) = U (x ^^^ y) := by
  unfold U; rw [u32_xor_nat _ _ x.isLt y.isLt, BitVec.toNat_xor]
theorem and_U (x y : W) : bits .and .u32 (U x) (U y) = U (x &&& y) := by
  unfold U; rw [u32_and_nat _ _ x.isLt y.isLt, BitVec.toNat_and]
theorem or_U (x y : W) : bits .or .u32 (U x) (U y) = U (x ||| y) := by
  unfold U; rw [u32_or_nat _ _ x.isLt y.isLt, BitVec.toNat_or]
theorem shr_U (x : W) (n : Nat) : U x / 2 ^ n = U (x >>> n) := by
  unfold U; rw [BitVec.toNat_ushiftRight, Nat.shiftRight_eq_div_pow]; norm_cast
theorem shl_U (x : W) (n : Nat) : IntKind.u32.wrap (U x * 2 ^ n) = U (x <<< n) := by
  have : U x * 2 ^ n = ((x.toNat * 2 ^ n : Nat) : Int) := by unfold U; norm_cast
  rw [this, wrap_u32_nat]; congr 1
  apply BitVec.eq_of_toNat_eq; rw [BitVec.toNat_ofNat, BitVec.toNat_shiftLeft, Nat.shiftLeft_eq]
theorem not_U (x : W) : bits .xor .u32 (U x) (4294967295 : Int) = U (~~~x) := by
  have h : (4294967295 : Int) = U (BitVec.allOnes 32) := by decide
  rw [h, xor_U, BitVec.xor_allOnes]

/-- The forms that the walk leaves. -/
theorem addm_U (x y : W) : (U x + U y) % (4294967296 : Int) = U (x + y) := by rw [← IntKind.wrap_u32', add_U]
theorem notm_U (x : W) : bits .xor .u32 IntKind.u32.max (U x) = U (~~~x) := by
  have h : IntKind.u32.max = U (BitVec.allOnes 32) := by decide
  rw [h, xor_U, BitVec.xor_comm, BitVec.xor_allOnes]
theorem shr3_U (x : W) : U x / (8 : Int) = U (x >>> 3) := shr_U x 3
theorem shr8_U (x : W) : U x / (256 : Int) = U (x >>> 8) := shr_U x 8
theorem shr10_U (x : W) : U x / (1024 : Int) = U (x >>> 10) := shr_U x 10
theorem shr16_U (x : W) : U x / (65536 : Int) = U (x >>> 16) := shr_U x 16
theorem shr24_U (x : W) : U x / (16777216 : Int) = U (x >>> 24) := shr_U x 24
theorem shlm_U (x : W) (n : Nat) : U x * 2 ^ n % (4294967296 : Int) = U (x <<< n) := by rw [← IntKind.wrap_u32', shl_U]

theorem shl8_U (x : W) : U x * (256 : Int) % (4294967296 : Int) = U (x <<< 8) := shlm_U x 8
theorem shl16_U (x : W) : U x * (65536 : Int) % (4294967296 : Int) = U (x <<< 16) := shlm_U x 16
theorem shl24_U (x : W) : U x * (16777216 : Int) % (4294967296 : Int) = U (x <<< 24) := shlm_U x 24
end Go.Proofs.YtnkkckmejjcfkaaGreatDoor.Sp

/- Small words on memory that all layers share: rows of bytes of a call's own, blocks that are known whole, what a call may have changed. -/
namespace Go.Proofs.YtnkkckmejjcfkaaGreatDoor.Sp
open Go Go.RowKit
set_option maxRecDepth 100000

def byteV (b : UInt8) : Value := .int .u8 (b.toNat : Int)
def byteVs (l : List UInt8) : List Value := l.map byteV
theorem byteVs_append (a b : List UInt8) : byteVs (a ++ b) = byteVs a ++ byteVs b := by simp [byteVs]
theorem byteVs_length (a : List UInt8) : (byteVs a).length = a.length := by simp [byteVs]
theorem infoByte : (Tryz.prog.info? 5).map (fun i => (i.zero, i.size, i.bytes)) = some (some (.int .u8 0), 1, 1) := by kernel_rfl

/-- A slice of bytes of the call's own. -/
def Own (w : World) (base : Nat) (v : Value) (l : List UInt8) : Prop := w.ownsRow base 5 1 v l.length (byteVs l)

theorem new_cell (w : World) (cs : List Value) (t : TypeId) {j : Nat} {u : Value} (h : cs[j]? = some u) : (w.alloc (.cells cs.toArray t)).cell? ((⟨w.heap.size, 0, none⟩ : Addr).add j) = some u := by
  have hadd : (⟨w.heap.size, 0, none⟩ : Addr).add j = ⟨w.heap.size, j, none⟩ := by unfold Addr.add; split <;> simp_all
  rw [hadd, cell_of_row _ _ j cs.toArray t (0, 0) (heap_alloc_new w _)]
  simpa using h
theorem grown_of_alloc {w w' : World} {o : Obj} {row : Option Nat} (h : (w.alloc o).grownBy w' row) : w.grownBy w' row :=
  ⟨h.os, h.tape, h.output, by have := h.size; simp at this; omega, fun k hk hne => (h.block k (by simp; omega) hne).trans (Below.heap_alloc w o k hk)⟩

theorem run_text_of_own {w : World} {base : Nat} {v : Value} {l : List UInt8} (h : Own w base v l) : (convert 62 9 v).run Tryz.prog w = .ok (.string ⟨l.toArray⟩) w := by
  rcases h.2 with ⟨rfl, hn⟩ | ⟨g, cap, cur, rfl, _, hg, _⟩
  · have : l = [] := List.eq_nil_of_length_eq_zero hn
    subst this
    rw [run_convert_bytes_nil _ _ _ Tryz.underlying62 Tryz.underlying5 0 0 _ Tryz.underlying9]
    rfl
  · refine run_convert_bytes_back w _ _ _ ⟨g, 0, none⟩ cap l Tryz.underlying62 Tryz.underlying5 Tryz.underlying9 ?_
    intro j hj
    have := h.cells (g := g) rfl j (byteV l[j]) (by simp [byteVs, hj])
    exact this


theorem own_made (w : World) (base c g : Nat) (hg : w.heap.size = g) (hb : base ≤ g) (hc : c ≤ maxLen) : Own (w.alloc (.cells (madeCells #[.int .u8 0] c) 5)) base (.slice (some ⟨g, 0, none⟩) 0 c) [] := by
  subst hg
  exact World.ownsRow_made w _ c hb hc (by rw [size_madeCells]; omega)

/-- Block g is just the cells cs of element type t, none frozen. -/
def Blk (w : World) (g : Nat) (t : TypeId) (cs : Array Value) : Prop := w.heap[g]? = some (.cells cs t (0, 0))
section
variable {w w' : World} {g : Nat} {t : TypeId} {cs : Array Value}
theorem Blk.lt (h : Blk w g t cs) : g < w.heap.size := by
  rcases Nat.lt_or_ge g w.heap.size with hlt | hge
  · exact hlt
  · unfold Blk at h; rw [Array.getElem?_eq_none hge] at h; cases h
theorem Blk.cell (h : Blk w g t cs) (i : Nat) : w.cell? ⟨g, i, none⟩ = cs[i]? := cell_of_row w g i cs t (0, 0) h
theorem Blk.frozen (h : Blk w g t cs) (i : Nat) : w.frozen? ⟨g, i, none⟩ = false := by
  unfold Blk at h
  simp [World.frozen?, h]
theorem Blk.new (w : World) (t : TypeId) (cs : Array Value) : Blk (w.alloc (.cells cs t)) w.heap.size t cs := heap_alloc_new w _
theorem Blk.drew (h : Blk w g t cs) : Blk w.drew g t cs := h
theorem Blk.drewN (h : Blk w g t cs) (n : Nat) : Blk (w.drewN n) g t cs := h
theorem Blk.alloc (h : Blk w g t cs) (o : Obj) : Blk (w.alloc o) g t cs := (Below.heap_alloc w o g h.lt).trans h
theorem Blk.set_ (h : Blk w g t cs) (i : Nat) (u : Value) : Blk (w.setCell ⟨g, i, none⟩ u) g t (cs.setIfInBounds i u) := by
  unfold Blk at h ⊢
  simp [World.setCell, Array.getElem?_modify, h]
theorem Blk.far (h : Blk w g t cs) {p : Addr} (hp : g ≠ p.block) (u : Value) : Blk (w.setCell p u) g t cs := (Below.heap_setCell w p u g hp).trans h
theorem Blk.below {B : Nat} (h : Blk w g t cs) (hb : Below B w w') (hg : g < B) : Blk w' g t cs := (hb.block g hg).trans h
theorem Blk.grown {row : Option Nat} (h : Blk w g t cs) (hb : w.grownBy w' row) (hg : some g ≠ row) : Blk w' g t cs := (hb.block g h.lt hg).trans h
end
section
variable {w w' : World} {g : Nat} {t : TypeId} {cs : Array Value}
theorem Blk.ne_ {g' : Nat} {t' : TypeId} {cs' : Array Value} (h : Blk w g t cs) (h' : Blk w g' t' cs') (hne : t ≠ t') : g ≠ g' := by
  rintro rfl
  unfold Blk at h h'
  rw [h] at h'
  injection h' with h'
  injection h' with _ ht
  exact hne ht
theorem own_blk_ne {base : Nat} {e : TypeId} {size n : Nat} {v : Value} {xs : List Value} (h : w.ownsRow base e size v n xs) (hg : Blk w g t cs) (hne : e ≠ t) : v.ownBlock ≠ some g := by
  rcases h.2 with ⟨rfl, _⟩ | ⟨g', cap, cur, rfl, _, hh, _⟩
  · simp [Value.ownBlock]
  · intro he
    have : g' = g := by simpa [Value.ownBlock] using he
    subst this
    exact Blk.ne_ (t := e) hh hg hne rfl
/-- A block that is known whole behind an append onto a row of another block. -/
theorem Blk.kept {W : World} {row : Option Nat} (hb : Blk w g t cs) (hW : Below w.heap.size w W) (hg : W.grownBy w' row) (hne : row ≠ some g) : Blk w' g t cs :=
  (hb.below hW hb.lt).grown hg (fun e => hne e.symm)
theorem own_set {base : Nat} {e : TypeId} {size n : Nat} {v : Value} {xs : List Value} (h : w.ownsRow base e size v n xs) (hg : Blk w g t cs) (hne : e ≠ t) (i : Nat) (u : Value) : (w.setCell ⟨g, i, none⟩ u).ownsRow base e size v n xs :=
  h.kept (row := some g) ⟨rfl, rfl, rfl, by simp [World.setCell], fun k _ hk => Below.heap_setCell w ⟨g, i, none⟩ u k (by intro e; exact hk (by rw [e]))⟩ (.inr (own_blk_ne h hg hne))
end
theorem below_drewN {B : Nat} {a w : World} (h : Below B a w) (n : Nat) : Below B a (w.drewN n) := ⟨h.os, h.tape, h.output, h.size, h.block⟩

theorem ret_agg {P : Program} {fn : Func} {R : Ending → World → Prop} {a : Act} {w : World} {p : Tmp} {ty : TypeId} (h : fn.results = #[.cell p ty]) (g : Nat) (t : TypeId) (cs : Array Value) (d : TypeDesc)
    (hp : a.tmps.getD p undef = .pointer (some ⟨g, 0, none⟩)) (hg : Blk w g t cs) (hd0 : a.defers = [])
    (hu : P.underlying ty = some d) (hd : (match d with | .struct _ | .array _ _ => true | _ => false) = true) (hi : (P.info? ty).map (·.size) = some cs.size)
    (hR : R (.returned (.agg cs)) w) : bodyPost P fn R .ret a w :=
  bodyPost_ret (results_cell_row h _ _ g t cs (0, 0) d hp hg hu hd hi) hd0 hR

theorem ret_agg_tmp {P : Program} {fn : Func} {R : Ending → World → Prop} {a : Act} {w : World} {p u : Tmp} {ty : TypeId} (h : fn.results = #[.cell p ty, .tmp u]) (g : Nat) (t : TypeId) (cs : Array Value) (d : TypeDesc)
    (hp : a.tmps.getD p undef = .pointer (some ⟨g, 0, none⟩)) (hg : Blk w g t cs) (hd0 : a.defers = [])
    (hu : P.underlying ty = some d) (hd : (match d with | .struct _ | .array _ _ => true | _ => false) = true) (hi : (P.info? ty).map (·.size) = some cs.size)
    (hR : R (.returned (.tuple #[.agg cs, a.tmps.getD u undef])) w) : bodyPost P fn R .ret a w :=
  bodyPost_ret (by
    have hp' : a.tmps[p]?.getD undef = .pointer (some ⟨g, 0, none⟩) := by simpa using hp
    rw [results_cell_tmp h]
    simp [hp', asAddr, run_loadVar_row w g t ty cs (0, 0) d hg hu hd hi, Result.andThen]) hd0 hR

theorem getD_data (s : ByteArray) (k j : Nat) (e : j = k) (h : k < s.size) : s.data.toList.getD j 0 = s[k] := by
  subst e
  rw [List.getD_eq_getElem?_getD, List.getElem?_eq_getElem (by simpa using h)]; rfl
theorem size_list (t : ByteArray) : t.data.toList.length = t.size := by simp
theorem ret_string {a b : List UInt8} (h : a = b) : Ending.returned (.string ⟨a.toArray⟩) = .returned (.string ⟨b.toArray⟩) := by rw [h]
theorem ret_text {a b : ByteArray} (h : a = b) : Ending.returned (.string a) = .returned (.string b) := by rw [h]
theorem ret_bool {a b : Bool} (h : a = b) : Ending.returned (.bool a) = .returned (.bool b) := by rw [h]
theorem of_list {a : ByteArray} {l : List UInt8} (h : a.data.toList = l) : a = ⟨l.toArray⟩ := by subst h; rfl
theorem list_inj {a b : ByteArray} (h : a.data.toList = b.data.toList) : a = b := by rw [of_list h]
theorem extract_list (t : ByteArray) (i j : Nat) : (t.extract i j).data.toList = (t.data.toList.take j).drop i := by rw [Lib.extract_data, ← List.drop_take]

/-- Of what there was, nothing but block g may have changed. -/
def Only (g : Nat) (w w' : World) : Prop := w.grownBy w' (some g)
section
variable {w w' w'' : World} {g : Nat}
theorem Only.refl (g : Nat) (w : World) : Only g w w := World.grownBy.refl w _
theorem Only.trans (h : Only g w w') (k : Only g w' w'') : Only g w w'' :=
  ⟨k.os.trans h.os, k.tape.trans h.tape, k.output.trans h.output, Nat.le_trans h.size k.size, fun i hi hne => (k.block i (Nat.lt_of_lt_of_le hi h.size) hne).trans (h.block i hi hne)⟩
theorem Only.of_below (g : Nat) (h : Below w.heap.size w w') : Only g w w' := ⟨h.os, h.tape, h.output, h.size, fun i hi _ => h.block i hi⟩
theorem Only.set_ (h : Only g w w') (i : Nat) (u : Value) : Only g w (w'.setCell ⟨g, i, none⟩ u) :=
  ⟨h.os, h.tape, h.output, by simpa [World.setCell] using h.size, fun k hk hne => (Below.heap_setCell w' ⟨g, i, none⟩ u k (by intro e; exact hne (by rw [e]))).trans (h.block k hk hne)⟩
theorem Only.drewN (h : Only g w w') (n : Nat) : Only g w (w'.drewN n) := ⟨h.os, h.tape, h.output, h.size, h.block⟩
theorem Only.drew (h : Only g w w') : Only g w w'.drew := ⟨h.os, h.tape, h.output, h.size, h.block⟩
theorem Only.below {B : Nat} {w0 : World} (h : Below B w0 w) (hB : B ≤ w.heap.size) (hg : B ≤ g) (k : Only g w w') : Below B w0 w' :=
  h.grown k hB (fun i hi => by injection hi with hi; omega)
theorem Only.cell {p : Addr} {v : Value} (h : Only g w w') (hc : w.cell? p = some v) (hne : p.block ≠ g) : w'.cell? p = some v := World.grownBy.cell h hc (by intro e; injection e with e; exact hne e)
theorem Only.blk {t : TypeId} {cs : Array Value} {k : Nat} (h : Only g w w') (hb : Blk w k t cs) (hne : k ≠ g) : Blk w' k t cs := hb.grown h (by intro e; injection e with e; exact hne e)
end

theorem run_text_of_blk {w : World} {g n cap : Nat} {l : List UInt8} (h : Blk w g 5 (byteVs l).toArray) (hn : l.length = n) :
    (convert 62 9 (.slice (some ⟨g, 0, none⟩) n cap)).run Tryz.prog w = .ok (.string ⟨l.toArray⟩) w := by
  subst hn
  refine run_convert_bytes_back w _ _ _ ⟨g, 0, none⟩ cap l Tryz.underlying62 Tryz.underlying5 Tryz.underlying9 ?_
  intro j hj
  have e : (⟨g, 0, none⟩ : Addr).add j = ⟨g, j, none⟩ := by unfold Addr.add; split <;> simp_all
  rw [e, h.cell j]
  simp [byteVs, byteV, hj]
/-- A row of bytes whose first r cells are still zero. -/
def gapB (r : Nat) (l : List UInt8) : Array Value := (byteVs (List.replicate r 0 ++ l)).toArray
theorem gapB_zero (l : List UInt8) : gapB 0 l = (byteVs l).toArray := rfl
theorem madeCells_toList (c : Nat) : (madeCells #[.int .u8 0] c).toList = byteVs (List.replicate c 0) := by
  apply List.ext_getElem
  · simp [madeCells, byteVs]
  · intro i h1 h2
    simp [madeCells, byteVs, byteV, Nat.mod_one]
theorem gapB_made (n : Nat) : madeCells #[Value.int .u8 0] n = gapB n [] := by
  apply Array.ext'
  rw [madeCells_toList]
  simp [gapB, byteVs, byteV]
theorem gapB_set (r : Nat) (l : List UInt8) (b : UInt8) : (gapB (r + 1) l).setIfInBounds r (.int .u8 (b.toNat : Int)) = gapB r (b :: l) := by
  unfold gapB
  rw [List.setIfInBounds_toArray]
  congr 1
  rw [List.replicate_succ', List.append_assoc, byteVs_append, byteVs_append, List.set_append_right _ _ (by simp [byteVs])]
  simp [byteVs, byteV]
theorem gapB_get (r : Nat) (l : List UInt8) : (gapB (r + 1) l)[r]? = some (.int .u8 0) := by
  simp [gapB, byteVs, byteV, List.replicate_succ']
theorem gapB_size (r : Nat) (l : List UInt8) : (gapB r l).size = r + l.length := by simp [gapB, byteVs]

/-- A slice value over n cells. -/
def Cells (w : World) (a : Option Addr) (n : Nat) (f : Nat → Value) : Prop := 0 < n → ∃ b off, a = some ⟨b, off, none⟩ ∧ ∀ j, j < n → w.cell? ⟨b, off + j, none⟩ = some (f j)
theorem Cells.at_ {w wr : World} {a : Option Addr} {n k : Nat} {f : Nat → Value} (h : Cells w a n f) (hb : Below w.heap.size w wr) (hk : k < n) :
    ∃ b off, a = some ⟨b, off, none⟩ ∧ b < w.heap.size ∧ wr.cell? ⟨b, off + k, none⟩ = some (f k) := by
  obtain ⟨b, off, rfl, hc⟩ := h (by omega)
  have hbw := World.block_lt_of_cell? w _ (hc k hk)
  exact ⟨b, off, rfl, hbw, (hb.cell (p := ⟨b, off + k, none⟩) hbw).trans (hc k hk)⟩

/-- append(b, s...) as one step of a region that draws its order, b a row of the call's own, what comes of it not empty. -/
theorem step_append_string {P : Program} {w : World} {ops : Array Oper} {o : Oper} {a : Act} {K : Act → World → Prop} {Q : Exit → Act → World → Prop} {E : Prop} (hgd : o.guard = none) (sl x : Operand) (t u : TypeId)
    (ho : o.op = .call { callee := .builtin .append, args := #[sl, x], argTypes := #[t, u] })
    (base : Nat) (e : TypeId) (i : TypeInfo) (ht : P.underlying t = some (.slice e)) (hu : P.underlying u = some .string) (hi : P.info? e = some i) (hz : i.zero = some (.int .u8 0))
    (hsize : i.size = 1) (hby : i.bytes = 1)
    (v : Value) (n : Nat) (xs : List Value) (hs : a.eval sl = v) (hown : w.ownsRow base e 1 v n xs) (s : ByteArray) (hx : a.eval x = .string s)
    (h63 : n + s.size ≤ maxLen) (hbytes : n + s.size ≤ 140737488355328) (hpos : 0 < n + s.size) (hbase : base ≤ w.heap.size)
    (h : ∀ g cap w', w'.ownsRow base e 1 (.slice (some ⟨g, 0, none⟩) (n + s.size) cap) (n + s.size) (xs ++ Lib.strCells s) → w.grownBy w' v.ownBlock → K (a.put o.dst (.slice (some ⟨g, 0, none⟩) (n + s.size) cap)) w') :
    if Region.wanted o (yielded ops a.tmps) = true then Oper.wp P o a w K Q else E := by
  have hw : Region.wanted o (yielded ops a.tmps) = true := by simp [Region.wanted, hgd]
  rw [if_pos hw]
  obtain ⟨v', w', hr, h2, h3, h4⟩ := Lib.run_append_own_string (P := P) w base t u o.type e i ht hu hi hz hsize hby v n xs hown s h63 hbytes hbase
  obtain ⟨g, cap, rfl, _, _⟩ := h2.form hpos
  unfold Oper.wp execOp
  simp only [ho, resolve, invoke, builtin, Sem.run_bind, Sem.run_pure, Result.andThen_ok, List.map_toArray, List.map_cons, List.map_nil, hs, hx, hr]
  exact h g cap w' h2 h3

end Go.Proofs.YtnkkckmejjcfkaaGreatDoor.Sp

/- Package sha: contracts of the small functions on words. -/
namespace Go.Proofs.YtnkkckmejjcfkaaGreatDoor.Sp
open Go Go.RowKit
set_option maxRecDepth 100000

attribute [local go_sem] add_U addm_U xor_U and_U or_U notm_U shr3_U shr10_U

theorem ret_u32 {a b : Int} (h : a = b) : Ending.returned (.int .u32 a) = .returned (.int .u32 b) := by rw [h]

theorem turn_count (n : Nat) (h1 : 1 ≤ n) (h2 : n ≤ 31) : bits .and .u64 (IntKind.u64.wrap (-(n : Int))) 31 = 32 - (n : Int) := by
  have key : ∀ m : Fin 32, 1 ≤ m.val → bits .and .u64 (IntKind.u64.wrap (-(m.val : Int))) 31 = 32 - (m.val : Int) := by decide +kernel
  exact key ⟨n, by omega⟩ h1
theorem rotr_U (x : W) (n : Nat) (h2 : n ≤ 31) : bits .or .u32 (U x * 2 ^ (32 - n) % (4294967296 : Int)) (U x / 2 ^ (32 - (32 - n))) = U (rotr x n) := by
  have e2 : 32 - (32 - n) = n := by omega
  rw [e2, shlm_U, shr_U, or_U]; unfold rotr; rw [BitVec.or_comm]

set_option maxHeartbeats 400000 in
theorem right_any (x : W) (n : Nat) (h1 : 1 ≤ n) (h2 : n ≤ 31) (w : World) :
    Calls Tryz.prog 121 #[.int .u32 (U x), .int .i64 (n : Int)] w fun e w' => e = .returned (.int .u32 (U (rotr x n))) ∧ w = w' := by
  have hc := turn_count n h1 h2
  go_enter Tryz.func121, Tryz.ntmps121
  go_wp2
  go_ret
  exact ⟨ret_u32 (rotr_U x n h2), rfl⟩

set_option maxHeartbeats 400000 in
theorem choose_any (x y z : W) (w : World) :
    Calls Tryz.prog 110 #[.int .u32 (U x), .int .u32 (U y), .int .u32 (U z)] w fun e w' => e = .returned (.int .u32 (U (ch x y z))) ∧ w = w' := by
  go_enter Tryz.func110, Tryz.ntmps110
  go_wp2
  all_goals go_ret
  all_goals exact ⟨rfl, rfl⟩

set_option maxHeartbeats 400000 in
theorem majority_any (x y z : W) (w : World) :
    Calls Tryz.prog 112 #[.int .u32 (U x), .int .u32 (U y), .int .u32 (U z)] w fun e w' => e = .returned (.int .u32 (U (maj x y z))) ∧ w = w' := by
  go_enter Tryz.func112, Tryz.ntmps112
  go_wp2
  go_ret
  exact ⟨rfl, rfl⟩

set_option maxHeartbeats 400000 in
theorem smallSigma0_any (x : W) (w : World) :
    Calls Tryz.prog 115 #[.int .u32 (U x)] w fun e w' => e = .returned (.int .u32 (U (ss0 x))) ∧ w = w' := by
  go_enter Tryz.func115, Tryz.ntmps115
  go_wp2_with fail
  refine (right_any x 7 (by decide) (by decide) _).mono ?_; rintro e w' ⟨rfl, rfl⟩
  go_wp2_with fail
  refine (right_any x 18 (by decide) (by decide) _).mono ?_; rintro e w' ⟨rfl, rfl⟩
  go_wp2_with fail
  go_ret
  exact ⟨rfl, rfl⟩

set_option maxHeartbeats 400000 in
theorem smallSigma1_any (x : W) (w : World) :
    Calls Tryz.prog 114 #[.int .u32 (U x)] w fun e w' => e = .returned (.int .u32 (U (ss1 x))) ∧ w = w' := by
  go_enter Tryz.func114, Tryz.ntmps114
  go_wp2_with fail
  refine (right_any x 17 (by decide) (by decide) _).mono ?_; rintro e w' ⟨rfl, rfl⟩
  go_wp2_with fail
  refine (right_any x 19 (by decide) (by decide) _).mono ?_; rintro e w' ⟨rfl, rfl⟩
  go_wp2_with fail
  go_ret
  exact ⟨rfl, rfl⟩

set_option maxHeartbeats 400000 in
theorem bigSigma0_any (x : W) (w : World) :
    Calls Tryz.prog 111 #[.int .u32 (U x)] w fun e w' => e = .returned (.int .u32 (U (bs0 x))) ∧ w = w' := by
  go_enter Tryz.func111, Tryz.ntmps111
  go_wp2_with fail
  refine (right_any x 2 (by decide) (by decide) _).mono ?_; rintro e w' ⟨rfl, rfl⟩
  go_wp2_with fail
  refine (right_any x 13 (by decide) (by decide) _).mono ?_; rintro e w' ⟨rfl, rfl⟩
  go_wp2_with fail
  refine (right_any x 22 (by decide) (by decide) _).mono ?_; rintro e w' ⟨rfl, rfl⟩
  go_wp2_with fail
  go_ret
  exact ⟨rfl, rfl⟩

set_option maxHeartbeats 400000 in
theorem bigSigma1_any (x : W) (w : World) :
    Calls Tryz.prog 109 #[.int .u32 (U x)] w fun e w' => e = .returned (.int .u32 (U (bs1 x))) ∧ w = w' := by
  go_enter Tryz.func109, Tryz.ntmps109
  go_wp2_with fail
  refine (right_any x 6 (by decide) (by decide) _).mono ?_; rintro e w' ⟨rfl, rfl⟩
  go_wp2_with fail
  refine (right_any x 11 (by decide) (by decide) _).mono ?_; rintro e w' ⟨rfl, rfl⟩
  go_wp2_with fail
  refine (right_any x 25 (by decide) (by decide) _).mono ?_; rintro e w' ⟨rfl, rfl⟩
  go_wp2_with fail
  go_ret
  exact ⟨rfl, rfl⟩


/-- Four bytes of a text as a word. -/
theorem byteW_U (b : UInt8) : (b.toNat : Int) = U (byteW b) := by
  unfold U byteW; rw [BitVec.toNat_ofNat]; have := b.toNat_lt; omega

theorem byte_wrap (b : UInt8) : IntKind.u32.wrap (b.toNat : Int) = U (byteW b) := by rw [wrap_u32_nat]; rfl
theorem at_sum (i : Nat) (k : Nat) (h : 4 * i + k ≤ 9223372036854775807) : IntKind.i64.wrap ((i : Int) * 4 + (k : Int)) = (i : Int) * 4 + (k : Int) ∧ 0 ≤ (i : Int) * 4 + (k : Int) ∧ ((i : Int) * 4 + (k : Int)).toNat = i * 4 + k :=
  ⟨by rw [IntKind.wrap_i64]; omega, by omega, by omega⟩

theorem word_bytes (s : ByteArray) (i : Nat) (h : 4 * i + 4 ≤ s.size) :
    bits .or .u32 (bits .or .u32 (bits .or .u32 (U (byteW (s[i * 4]'(by omega))) * 16777216 % (4294967296 : Int)) (U (byteW (s[i * 4 + 1]'(by omega))) * 65536 % (4294967296 : Int))) (U (byteW (s[i * 4 + 2]'(by omega))) * 256 % (4294967296 : Int)))
      (U (byteW (s[i * 4 + 3]'(by omega)))) = U (word s.data.toList i) := by
  rw [shl24_U, shl16_U, shl8_U, or_U, or_U, or_U]
  unfold word
  rw [getD_data s (i * 4) (4 * i) (by omega) (by omega), getD_data s (i * 4 + 1) (4 * i + 1) (by omega) (by omega), getD_data s (i * 4 + 2) (4 * i + 2) (by omega) (by omega), getD_data s (i * 4 + 3) (4 * i + 3) (by omega) (by omega)]

attribute [local go_sem] byte_wrap

set_option maxHeartbeats 1000000 in
theorem word_any (s : ByteArray) (i : Nat) (h : 4 * i + 4 ≤ s.size) (hs : s.size ≤ 9223372036854775807) (w : World) :
    Calls Tryz.prog 113 #[.string s, .int .i64 (i : Int)] w fun e w' => e = .returned (.int .u32 (U (word s.data.toList i))) ∧ ∃ n, w' = w.drewN n := by
  have hw0 : (i : Int) * 4 < (s.size : Int) := by omega
  have hw1 : (i : Int) * 4 + 1 < (s.size : Int) := by omega
  have hw2 : (i : Int) * 4 + 2 < (s.size : Int) := by omega
  have hw3 : (i : Int) * 4 + 3 < (s.size : Int) := by omega
  have g0 : 0 ≤ (i : Int) * 4 := by omega
  obtain ⟨a1, b1, c1⟩ := at_sum i 1 (by omega)
  obtain ⟨a2, b2, c2⟩ := at_sum i 2 (by omega)
  obtain ⟨a3, b3, c3⟩ := at_sum i 3 (by omega)
  have c0 : ((i : Int) * 4).toNat = i * 4 := by omega
  simp only [Int.cast_ofNat_Int] at a1 b1 c1 a2 b2 c2 a3 b3 c3
  go_enter Tryz.func113, Tryz.ntmps113
  go_wp2
  go_quiet (fail)
  go_wp2
  go_ret
  exact ⟨ret_u32 (word_bytes s i h), _, rfl⟩

end Go.Proofs.YtnkkckmejjcfkaaGreatDoor.Sp

/- Package sha: the contract of appendWord: four bytes more behind a row of the call's own. -/
namespace Go.Proofs.YtnkkckmejjcfkaaGreatDoor.Sp
open Go Go.RowKit
set_option maxRecDepth 100000

theorem wrap8_U (y : W) : IntKind.u8.wrap (U y) = ((lowB y).toNat : Int) := by
  rw [IntKind.wrap_u8']; unfold U lowB; rw [UInt8.toNat_ofNat']; omega

attribute [local go_sem] wrap8_U shr24_U shr16_U shr8_U

def Grew (w : World) (base : Nat) (v : Value) (l : List UInt8) (e : Ending) (w' : World) : Prop := ∃ v', e = .returned v' ∧ Own w' base v' l ∧ w.grownBy w' v.ownBlock

set_option maxHeartbeats 400000 in
theorem appendWord_any (x : W) (v : Value) (l : List UInt8) (base : Nat) (w : World) (hown : Own w base v l) (hl : l.length ≤ 140737488355000) (hb : base ≤ w.heap.size) :
    Calls Tryz.prog 87 #[v, .int .u32 (U x)] w (Grew w base v (l ++ bytes4 x)) := by
  obtain ⟨i0, hi, hz0, hz1, hz2⟩ := info_parts infoByte
  unfold Own at hown
  go_enter Tryz.func87, Tryz.ntmps87
  go_wp2_with (first
    | (at_builtin; refine wpList_append_own _ rfl (.tmp 5) (.tmp 17) 62 rfl base 5 i0 (.int .u8 0) 1 1 Tryz.underlying62 hi hz0 hz1 hz2 rfl (by decide) _ _ _ rfl (hown.alloc _) ⟨w.heap.size, 0, none⟩ 4 4 [byteV (lowB (x >>> 24)), byteV (lowB (x >>> 16)), byteV (lowB (x >>> 8)), byteV (lowB x)] rfl rfl ?c1 ?c2 ?c3 ?c4 ?c5 ?_))
  case c1 => intro j u hj; exact new_cell _ _ _ hj
  case c2 => intro u hu; simp at hu; rcases hu with rfl | rfl | rfl | rfl <;> rfl
  case c3 => unfold maxLen; omega
  case c4 => omega
  case c5 => simp; omega
  intro v' w1 hown1 hgrow _
  have HO := Lib.hid hown1
  have HG := Lib.hid hgrow
  clear hown1 hgrow hown
  go_wp2
  go_ret
  refine ⟨v', rfl, ?_, grown_of_alloc HG.out⟩
  unfold Own
  rw [byteVs_append, List.length_append]
  exact HO.out

end Go.Proofs.YtnkkckmejjcfkaaGreatDoor.Sp

/- Slices of texts of a call's own, and what stays as it was (no layer is named here). -/
namespace Go.Proofs.YtnkkckmejjcfkaaGreatDoor.Sp
open Go Go.RowKit
set_option maxRecDepth 100000

/-- A slice of texts of the call's own. -/
def OwnT (w : World) (base : Nat) (v : Value) (l : List ByteArray) : Prop := w.ownsRow base 9 1 v l.length (l.map Value.string)
theorem infoText : (Tryz.prog.info? 9).map (fun i => (i.zero, i.size, i.bytes)) = some (some (.string .empty), 1, 16) := by kernel_rfl
theorem own_below {w w' : World} {base : Nat} {e : TypeId} {size n : Nat} {v : Value} {xs : List Value} (h : w.ownsRow base e size v n xs) (hb : Below w.heap.size w w') : w'.ownsRow base e size v n xs :=
  h.kept (row := none) ⟨hb.os, hb.tape, hb.output, hb.size, fun i hi _ => hb.block i hi⟩ (by cases v.ownBlock <;> simp)
theorem below_of_drew {w w1 : World} (h : Below w.drew.heap.size w.drew w1) : Below w.heap.size w w1 := (Below.refl _ _).drew.trans h
/-- It has a block of its own, if it has a text. -/
theorem OwnT.slice {w : World} {base : Nat} {v : Value} {l : List ByteArray} (h : OwnT w base v l) (hpos : 0 < l.length) :
    ∃ g c, v = .slice (some ⟨g, 0, none⟩) l.length c ∧ base ≤ g ∧ g < w.heap.size ∧ l.length ≤ c ∧ ∀ (j : Nat) x, l[j]? = some x → w.cell? ⟨g, j, none⟩ = some (.string x) := by
  rcases h.2 with ⟨_, h2⟩ | ⟨g, cap, cur, h1, hb, _, hc, _⟩
  · omega
  · have hg := World.ownsRow.lt h g (by rw [h1]; rfl)
    refine ⟨g, cap, h1, hg.1, hg.2, hc, fun j x hj => ?_⟩
    have hcl := World.ownsRow.cells h (g := g) (by rw [h1]; rfl) j (.string x) (by simp [hj])
    rw [show (⟨g, 0, none⟩ : Addr).add j = ⟨g, 0 + j, none⟩ from by unfold Addr.add; split <;> simp_all, Nat.zero_add] at hcl
    exact hcl
end Go.Proofs.YtnkkckmejjcfkaaGreatDoor.Sp
