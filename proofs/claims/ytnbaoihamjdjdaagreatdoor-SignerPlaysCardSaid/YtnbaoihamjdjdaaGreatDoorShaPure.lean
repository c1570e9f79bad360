/- Plain SHA-256 over lists of bytes: the functions that the contracts of package sha and of the document's own answer come to; no program is named here. -/

namespace Go.Proofs.YtnbaoihamjdjdaaGreatDoor.Sp

abbrev W := BitVec 32

def rotr (x : W) (n : Nat) : W := x >>> n ||| x <<< (32 - n)
/-- The i-th word of a list. -/
def gW (l : List W) (i : Nat) : W := l.getD i 0
def ss0 (x : W) : W := rotr x 7 ^^^ rotr x 18 ^^^ x >>> 3
def ss1 (x : W) : W := rotr x 17 ^^^ rotr x 19 ^^^ x >>> 10
def bs0 (x : W) : W := rotr x 2 ^^^ rotr x 13 ^^^ rotr x 22
def bs1 (x : W) : W := rotr x 6 ^^^ rotr x 11 ^^^ rotr x 25
def ch (x y z : W) : W := x &&& y ^^^ ~~~x &&& z
def maj (x y z : W) : W := x &&& y ^^^ x &&& z ^^^ y &&& z

structure St where
  a : W
  b : W
  c : W
  d : W
  e : W
  f : W
  g : W
  h : W

def kN : List Nat := [
  0x428a2f98, 0x71374491, 0xb5c0fbcf, 0xe9b5dba5, 0x3956c25b, 0x59f111f1, 0x923f82a4, 0xab1c5ed5,
  0xd807aa98, 0x12835b01, 0x243185be, 0x550c7dc3, 0x72be5d74, 0x80deb1fe, 0x9bdc06a7, 0xc19bf174,
  0xe49b69c1, 0xefbe4786, 0x0fc19dc6, 0x240ca1cc, 0x2de92c6f, 0x4a7484aa, 0x5cb0a9dc, 0x76f988da,
  0x983e5152, 0xa831c66d, 0xb00327c8, 0xbf597fc7, 0xc6e00bf3, 0xd5a79147, 0x06ca6351, 0x14292967,
  0x27b70a85, 0x2e1b2138, 0x4d2c6dfc, 0x53380d13, 0x650a7354, 0x766a0abb, 0x81c2c92e, 0x92722c85,
  0xa2bfe8a1, 0xa81a664b, 0xc24b8b70, 0xc76c51a3, 0xd192e819, 0xd6990624, 0xf40e3585, 0x106aa070,
  0x19a4c116, 0x1e376c08, 0x2748774c, 0x34b0bcb5, 0x391c0cb3, 0x4ed8aa4a, 0x5b9cca4f, 0x682e6ff3,
  0x748f82ee, 0x78a5636f, 0x84c87814, 0x8cc70208, 0x90befffa, 0xa4506ceb, 0xbef9a3f7, 0xc67178f2]
def kW (i : Nat) : W := BitVec.ofNat 32 (kN.getD i 0)

def st0 : St := ⟨0x6a09e667#32, 0xbb67ae85#32, 0x3c6ef372#32, 0xa54ff53a#32, 0x510e527f#32, 0x9b05688c#32, 0x1f83d9ab#32, 0x5be0cd19#32⟩

def round (s : St) (k w : W) : St :=
  let t := s.h + bs1 s.e + ch s.e s.f s.g + k + w
  let u := bs0 s.a + maj s.a s.b s.c
  ⟨t + u, s.a, s.b, s.c, s.d + t, s.e, s.f, s.g⟩

/-- The state behind the first n rounds. -/
def rounds (w : List W) : Nat → St → St
  | 0, s => s
  | n + 1, s => round (rounds w n s) (kW n) (gW w n)

def St.add (s t : St) : St := ⟨s.a + t.a, s.b + t.b, s.c + t.c, s.d + t.d, s.e + t.e, s.f + t.f, s.g + t.g, s.h + t.h⟩

/-- Four bytes from place 4 i on. -/
def byteW (b : UInt8) : W := BitVec.ofNat 32 b.toNat
def word (l : List UInt8) (i : Nat) : W := byteW (l.getD (4 * i) 0) <<< 24 ||| byteW (l.getD (4 * i + 1) 0) <<< 16 ||| byteW (l.getD (4 * i + 2) 0) <<< 8 ||| byteW (l.getD (4 * i + 3) 0)

def words (l : List UInt8) (n : Nat) : List W := (List.range n).map (word l)

def next (w : List W) (i : Nat) : W := ss1 (gW w (i - 2)) + gW w (i - 7) + ss0 (gW w (i - 15)) + gW w (i - 16)

/-- The schedule's first 16 + n words. -/
def sched (l : List UInt8) : Nat → List W
  | 0 => words l 16
  | n + 1 => sched l n ++ [next (sched l n) (16 + n)]

def compress (s : St) (l : List UInt8) : St := s.add (rounds (sched l 48) 64 s)

/-- The last byte of a word. -/
def lowB (x : W) : UInt8 := UInt8.ofNat x.toNat
def bytes4 (x : W) : List UInt8 := [lowB (x >>> 24), lowB (x >>> 16), lowB (x >>> 8), lowB x]

def St.ws (s : St) : List W := [s.a, s.b, s.c, s.d, s.e, s.f, s.g, s.h]
def St.of (l : List W) : St := ⟨gW l 0, gW l 1, gW l 2, gW l 3, gW l 4, gW l 5, gW l 6, gW l 7⟩
def encode (s : St) : List UInt8 := s.ws.flatMap bytes4
def decode (l : List UInt8) : St := St.of (words l 8)

def absorb : Nat → St → List UInt8 → St
  | 0, s, _ => s
  | n + 1, s, l => absorb n (compress s (l.take 64)) (l.drop 64)

def zeros (n : Nat) : Nat := (64 - (n % 64 + 9) % 64) % 64
def pad (n : Nat) : List UInt8 := [128] ++ List.replicate (zeros n) 0 ++ bytes4 (BitVec.ofNat 32 (8 * n / 4294967296)) ++ bytes4 (BitVec.ofNat 32 (8 * n))

def padded (s : List UInt8) : List UInt8 := s ++ pad s.length
def sum (s : List UInt8) : List UInt8 := encode (absorb ((padded s).length / 64) st0 (padded s))

def block (state blk : List UInt8) : List UInt8 := if state.length = 32 ∧ blk.length = 64 then encode (compress (decode state) blk) else []

def input (d : UInt8) (parts : List (List UInt8)) : List UInt8 := d :: parts.flatMap fun p => bytes4 (BitVec.ofNat 32 p.length) ++ p

theorem bytes4_len (x : W) : (bytes4 x).length = 4 := rfl
theorem flatMap4_length (l : List W) : (l.flatMap bytes4).length = 4 * l.length := by
  induction l with
  | nil => rfl
  | cons x l ih => simp [List.flatMap_cons, ih, bytes4_len]; omega
theorem encode_length (s : St) : (encode s).length = 32 := by unfold encode; rw [flatMap4_length]; rfl


end Go.Proofs.YtnbaoihamjdjdaaGreatDoor.Sp
