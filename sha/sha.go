// Package sha is layer 1: SHA-256 block by block, and the hash of a list of
// parts with a domain. See shared/doc/01-sha.md.
package sha

import (
	"math/bits"

	"voussoir/api"
)

const (
	blockSize  = 64
	wordSize   = 4
	lengthSize = 8 // bytes of the length that ends a padding
	rounds     = 64
)

// constants are the words K of the chapter.
var constants = [rounds]uint32{
	0x428a2f98, 0x71374491, 0xb5c0fbcf, 0xe9b5dba5, 0x3956c25b, 0x59f111f1, 0x923f82a4, 0xab1c5ed5,
	0xd807aa98, 0x12835b01, 0x243185be, 0x550c7dc3, 0x72be5d74, 0x80deb1fe, 0x9bdc06a7, 0xc19bf174,
	0xe49b69c1, 0xefbe4786, 0x0fc19dc6, 0x240ca1cc, 0x2de92c6f, 0x4a7484aa, 0x5cb0a9dc, 0x76f988da,
	0x983e5152, 0xa831c66d, 0xb00327c8, 0xbf597fc7, 0xc6e00bf3, 0xd5a79147, 0x06ca6351, 0x14292967,
	0x27b70a85, 0x2e1b2138, 0x4d2c6dfc, 0x53380d13, 0x650a7354, 0x766a0abb, 0x81c2c92e, 0x92722c85,
	0xa2bfe8a1, 0xa81a664b, 0xc24b8b70, 0xc76c51a3, 0xd192e819, 0xd6990624, 0xf40e3585, 0x106aa070,
	0x19a4c116, 0x1e376c08, 0x2748774c, 0x34b0bcb5, 0x391c0cb3, 0x4ed8aa4a, 0x5b9cca4f, 0x682e6ff3,
	0x748f82ee, 0x78a5636f, 0x84c87814, 0x8cc70208, 0x90befffa, 0xa4506ceb, 0xbef9a3f7, 0xc67178f2,
}

// Sum is the SHA-256 hash of a text.
func Sum(s string) string {
	// Only the end of s is copied: whole blocks are read where they stand.
	end := len(s) - len(s)%blockSize
	state := absorb(initial(), s[:end])
	return encode(absorb(state, s[end:]+Pad(len(s))))
}

// Pad is the padding behind a text of n bytes, or nothing if n is negative.
func Pad(n int) string {
	if n < 0 {
		return ""
	}
	// The remainder is taken first, as n + 9 may lie beyond the largest int.
	used := (n%blockSize + 1 + lengthSize) % blockSize
	zeros := (blockSize - used) % blockSize
	out := make([]byte, 1+zeros, 1+zeros+lengthSize)
	out[0] = 128
	length := 8 * uint64(n)
	out = appendWord(out, uint32(length>>32))
	out = appendWord(out, uint32(length))
	return string(out)
}

// Block is the state behind a block, or nothing if either has a wrong length.
func Block(state, block string) string {
	if len(state) != api.HashSize || len(block) != blockSize {
		return ""
	}
	return encode(compress(decode(state), block))
}

// First is the state ahead of the first block.
func First() string { return encode(initial()) }

// Input is the text that Tag hashes: the domain, and each part behind its
// length, so that no two lists of parts run together to the same text.
func Input(domain byte, parts []string) string {
	size := 1
	for _, part := range parts {
		size += wordSize + len(part)
	}
	out := make([]byte, 1, size)
	out[0] = domain
	for _, part := range parts {
		out = appendWord(out, uint32(len(part)))
		out = append(out, part...)
	}
	return string(out)
}

// Tag is the hash of a list of parts in a domain.
func Tag(domain byte, parts []string) string { return Sum(Input(domain, parts)) }

func initial() [8]uint32 {
	return [8]uint32{
		0x6a09e667, 0xbb67ae85, 0x3c6ef372, 0xa54ff53a,
		0x510e527f, 0x9b05688c, 0x1f83d9ab, 0x5be0cd19,
	}
}

// absorb takes the blocks of a text whose length is a multiple of a block's.
func absorb(state [8]uint32, text string) [8]uint32 {
	for len(text) >= blockSize {
		state = compress(state, text[:blockSize])
		text = text[blockSize:]
	}
	return state
}

func compress(state [8]uint32, block string) [8]uint32 {
	mixed := mix(state, schedule(block))
	for i := range state {
		state[i] += mixed[i]
	}
	return state
}

func schedule(block string) [rounds]uint32 {
	var w [rounds]uint32
	for i := range 16 {
		w[i] = word(block, i)
	}
	for i := 16; i < rounds; i++ {
		w[i] = smallSigma1(w[i-2]) + w[i-7] + smallSigma0(w[i-15]) + w[i-16]
	}
	return w
}

// mix turns a state by all rounds, each of which jumps back to the next.
func mix(state [8]uint32, w [rounds]uint32) [8]uint32 {
	a, b, c, d := state[0], state[1], state[2], state[3]
	e, f, g, h := state[4], state[5], state[6], state[7]
	i := 0
round:
	t := h + bigSigma1(e) + choose(e, f, g) + constants[i] + w[i]
	u := bigSigma0(a) + majority(a, b, c)
	h, g, f, e, d, c, b, a = g, f, e, d+t, c, b, a, t+u
	i++
	if i < rounds {
		goto round
	}
	return [8]uint32{a, b, c, d, e, f, g, h}
}

func choose(x, y, z uint32) uint32 { return x&y ^ ^x&z }

func majority(x, y, z uint32) uint32 { return x&y ^ x&z ^ y&z }

func smallSigma0(x uint32) uint32 { return right(x, 7) ^ right(x, 18) ^ x>>3 }

func smallSigma1(x uint32) uint32 { return right(x, 17) ^ right(x, 19) ^ x>>10 }

func bigSigma0(x uint32) uint32 { return right(x, 2) ^ right(x, 13) ^ right(x, 22) }

func bigSigma1(x uint32) uint32 { return right(x, 6) ^ right(x, 11) ^ right(x, 25) }

// right is rotr: package bits rotates to the left only.
func right(x uint32, n int) uint32 { return bits.RotateLeft32(x, -n) }

// word is the i-th word of a text.
func word(text string, i int) uint32 {
	at := i * wordSize
	return uint32(text[at])<<24 | uint32(text[at+1])<<16 | uint32(text[at+2])<<8 | uint32(text[at+3])
}

func appendWord(out []byte, x uint32) []byte {
	return append(out, byte(x>>24), byte(x>>16), byte(x>>8), byte(x))
}

func decode(text string) [8]uint32 {
	var state [8]uint32
	for i := range state {
		state[i] = word(text, i)
	}
	return state
}

func encode(state [8]uint32) string {
	out := make([]byte, 0, api.HashSize)
	for _, x := range state {
		out = appendWord(out, x)
	}
	return string(out)
}
