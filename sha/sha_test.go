package sha_test

import (
	"crypto/sha256"
	"encoding/binary"
	"encoding/hex"
	"math"
	"slices"
	"strings"
	"testing"

	"voussoir/sha"
)

// run is a text of n bytes that repeats only after 256 of them, if step is odd.
func run(n, step int) string {
	out := make([]byte, n)
	for i := range out {
		out[i] = byte(i * step)
	}
	return string(out)
}

func library(s string) string {
	sum := sha256.Sum256([]byte(s))
	return string(sum[:])
}

// lengths are those around the ends of blocks, and the small ones.
func lengths() []int {
	var out []int
	for n := range 300 {
		out = append(out, n)
	}
	return append(out, 503, 504, 511, 512, 513, 4095, 4096, 4097, 65535, 65536, 1<<20+55, 1<<20+56)
}

// S1

func TestFirstIsTheInitialState(t *testing.T) {
	want := "6a09e667bb67ae853c6ef372a54ff53a510e527f9b05688c1f83d9ab5be0cd19"
	if got := hex.EncodeToString([]byte(sha.First())); got != want {
		t.Errorf("First() = %s, want %s", got, want)
	}
}

func TestPadOfTheExample(t *testing.T) {
	want := "\x80" + strings.Repeat("\x00", 59) + "\x18"
	if got := sha.Pad(3); got != want || len(got) != 61 {
		t.Errorf("Pad(3) = %q", got)
	}
}

func TestPadAroundTheEndOfABlock(t *testing.T) {
	for _, c := range []struct{ n, long int }{
		{0, 64}, {1, 63}, {54, 10}, {55, 9}, {56, 72}, {57, 71}, {63, 65},
		{64, 64}, {65, 63}, {119, 9}, {120, 72}, {127, 65}, {128, 64},
	} {
		if got := len(sha.Pad(c.n)); got != c.long {
			t.Errorf("Pad(%d) has %d bytes, want %d", c.n, got, c.long)
		}
	}
}

func TestPadHasItsParts(t *testing.T) {
	ns := append(lengths(), math.MaxInt32, math.MaxInt32+1, math.MaxUint32, math.MaxUint32+1,
		1<<61-1, 1<<61, 1<<61+1, 1<<62, math.MaxInt64-63, math.MaxInt64-9, math.MaxInt64-8, math.MaxInt64-1, math.MaxInt64)
	for _, n := range ns {
		p := sha.Pad(n)
		if len(p) < 9 || len(p) > 72 {
			t.Fatalf("Pad(%d) has %d bytes", n, len(p))
		}
		if (uint64(n)+uint64(len(p)))%64 != 0 {
			t.Errorf("Pad(%d) has %d bytes: no multiple of 64 together", n, len(p))
		}
		zeros := len(p) - 9
		if p[0] != 128 || p[1:1+zeros] != strings.Repeat("\x00", zeros) {
			t.Errorf("Pad(%d) = %x", n, p)
		}
		if got := binary.BigEndian.Uint64([]byte(p[1+zeros:])); got != 8*uint64(n) {
			t.Errorf("Pad(%d) ends with %d, want %d", n, got, 8*uint64(n))
		}
	}
}

func TestPadLengthWrapsRound(t *testing.T) {
	if got := sha.Pad(1 << 61); got != "\x80"+strings.Repeat("\x00", 63) {
		t.Errorf("Pad(2^61) = %x", got)
	}
	want := "\x80" + strings.Repeat("\x00", 56) + "\xff\xff\xff\xff\xff\xff\xff\xf8"
	if got := sha.Pad(math.MaxInt64); got != want {
		t.Errorf("Pad(2^63 - 1) = %x", got)
	}
}

func TestPadOfANegativeLengthIsNothing(t *testing.T) {
	for _, n := range []int{-1, -2, -9, -64, math.MinInt32, math.MinInt64 + 1, math.MinInt64} {
		if got := sha.Pad(n); got != "" {
			t.Errorf("Pad(%d) = %x", n, got)
		}
	}
}

// S2

func TestBlock(t *testing.T) {
	for _, c := range []struct{ state, block, want string }{
		{run(32, 0), run(64, 0), "7ca51614425c3ba8ce54dd2fc2020ae7b6e574d198136d0fae7e26ccbf0be7a6"},
		{strings.Repeat("\xff", 32), strings.Repeat("\xff", 64), "0598127aaf11706e77401fffd730c5490b84c867a98c6ca3d7f3c0f906a78b79"},
		{run(32, 1), run(64, 7), "2ca5fb935a5f5a60d8631820b57a00c7410b1e18d33c0e8587ec4bc0895f45b2"},
		{run(32, 37), run(64, 251), "7872bc0632cc6ea5516b0efeabceb8e9f3e811a9d8168f2c0f194139c024c0be"},
		{sha.First(), "abc" + sha.Pad(3), "ba7816bf8f01cfea414140de5dae2223b00361a396177a9cb410ff61f20015ad"},
	} {
		if got := hex.EncodeToString([]byte(sha.Block(c.state, c.block))); got != c.want {
			t.Errorf("Block(%x, %x) = %s, want %s", c.state, c.block, got, c.want)
		}
	}
}

func TestBlockOfManyStates(t *testing.T) {
	state := run(32, 11)
	for range 1000 {
		state = sha.Block(state, state+state)
	}
	want := "e65123914e367f560f37c6136fb18d2fcc28cd6d81838966334b2834096c11c5"
	if got := hex.EncodeToString([]byte(state)); got != want {
		t.Errorf("after 1000 blocks: %s, want %s", got, want)
	}
}

func TestBlockOfAWrongLengthIsNothing(t *testing.T) {
	for _, state := range []int{0, 1, 31, 32, 33, 63, 64, 65} {
		for _, block := range []int{0, 1, 31, 32, 33, 63, 64, 65, 128} {
			long := len(sha.Block(run(state, 3), run(block, 5)))
			if right := state == 32 && block == 64; right != (long == 32) || !right && long != 0 {
				t.Errorf("a state of %d bytes and a block of %d: %d bytes", state, block, long)
			}
		}
	}
}

// S3

func TestSumOfTheExamples(t *testing.T) {
	for _, c := range []struct{ s, want string }{
		{"", "e3b0c44298fc1c149afbf4c8996fb92427ae41e4649b934ca495991b7852b855"},
		{"abc", "ba7816bf8f01cfea414140de5dae2223b00361a396177a9cb410ff61f20015ad"},
	} {
		if got := hex.EncodeToString([]byte(sha.Sum(c.s))); got != c.want {
			t.Errorf("Sum(%q) = %s, want %s", c.s, got, c.want)
		}
	}
	if got := sha.Sum(""); !strings.HasPrefix(got, string([]byte{227, 176, 196, 66})) {
		t.Errorf("Sum of nothing begins with %v", []byte(got)[:4])
	}
}

func TestSumAtEachLength(t *testing.T) {
	for _, n := range lengths() {
		for _, s := range []string{run(n, 0), run(n, 1), run(n, 255)} {
			if got := sha.Sum(s); got != library(s) {
				t.Errorf("Sum of %d bytes = %x", n, got)
			}
		}
	}
}

func TestSumOfEachByte(t *testing.T) {
	for b := range 256 {
		s := string([]byte{byte(b)})
		if got := sha.Sum(s); got != library(s) {
			t.Errorf("Sum(%q) = %x", s, got)
		}
	}
}

// S4

func TestInput(t *testing.T) {
	for _, c := range []struct {
		domain byte
		parts  []string
		want   string
	}{
		{7, nil, "\x07"},
		{7, []string{}, "\x07"},
		{0, nil, "\x00"},
		{255, nil, "\xff"},
		{128, []string{""}, "\x80\x00\x00\x00\x00"},
		{1, []string{"", ""}, "\x01\x00\x00\x00\x00\x00\x00\x00\x00"},
		{7, []string{"a", "", "bc"}, "\x07\x00\x00\x00\x01a\x00\x00\x00\x00\x00\x00\x00\x02bc"},
		{9, []string{"\x00\xff"}, "\x09\x00\x00\x00\x02\x00\xff"},
		{3, []string{"é"}, "\x03\x00\x00\x00\x02\xc3\xa9"},
	} {
		if got := sha.Input(c.domain, c.parts); got != c.want {
			t.Errorf("Input(%d, %q) = %q, want %q", c.domain, c.parts, got, c.want)
		}
	}
}

func TestInputOfLongParts(t *testing.T) {
	for _, c := range []struct {
		long int
		want string
	}{
		{255, "\x00\x00\x00\xff"}, {256, "\x00\x00\x01\x00"}, {65536 + 2, "\x00\x01\x00\x02"}, {1<<24 + 3, "\x01\x00\x00\x03"},
	} {
		part := run(c.long, 1)
		if got := sha.Input(4, []string{part, "x"}); got != "\x04"+c.want+part+"\x00\x00\x00\x01x" {
			t.Errorf("Input of a part of %d bytes begins with %q", c.long, got[:5])
		}
	}
}

func TestTagIsTheSumOfItsInput(t *testing.T) {
	for _, domain := range []byte{0, 1, 5, 14, 127, 128, 255} {
		for _, parts := range [][]string{nil, {}, {""}, {"a"}, {"a", "", "bc"}, {run(200, 1), run(55, 3)}} {
			if got := sha.Tag(domain, parts); got != library(sha.Input(domain, parts)) {
				t.Errorf("Tag(%d, %q) = %x", domain, parts, got)
			}
		}
	}
	if sha.Tag(7, []string{"a"}) != library("\x07\x00\x00\x00\x01a") {
		t.Error("Tag(7, {a})")
	}
}

func TestPartsStayAsTheyAre(t *testing.T) {
	all := []string{"a", "b", "c", "d"}
	first, tag := sha.Input(1, all[:2]), sha.Tag(1, all[:2])
	if !slices.Equal(all, []string{"a", "b", "c", "d"}) {
		t.Errorf("the parts became %q", all)
	}
	all[0] = "z"
	if first != "\x01\x00\x00\x00\x01a\x00\x00\x00\x01b" || tag != library(first) {
		t.Error("a result changed with the parts")
	}
	if sha.Input(1, all[:2]) == first {
		t.Error("Input kept the parts of another call")
	}
}

// S5

func TestPaddedTextsDiffer(t *testing.T) {
	paddings, padded := map[string]int{}, map[string]string{}
	for n := range 700 {
		p := sha.Pad(n)
		if other, ok := paddings[p]; ok {
			t.Errorf("%d and %d have the same padding", other, n)
		}
		paddings[p] = n
		// A text that looks like a padded one must not be taken for it.
		for _, s := range []string{run(n, 0), run(n, 1), run(n/2, 1) + sha.Pad(n/2)} {
			whole := s + sha.Pad(len(s))
			if len(whole)%64 != 0 {
				t.Errorf("%d bytes and their padding are %d", len(s), len(whole))
			}
			if other, ok := padded[whole]; ok && other != s {
				t.Errorf("%x and %x are the same when padded", other, s)
			}
			padded[whole] = s
		}
	}
}

func TestHashingGoesOnBlockByBlock(t *testing.T) {
	for _, n := range lengths() {
		s := run(n, 13)
		state := sha.First()
		for whole := s + sha.Pad(len(s)); whole != ""; whole = whole[64:] {
			state = sha.Block(state, whole[:64])
		}
		if state != sha.Sum(s) {
			t.Errorf("%d bytes: %x block by block, %x at once", n, state, sha.Sum(s))
		}
	}
}

func TestInputsDiffer(t *testing.T) {
	lists := [][]string{
		nil, {""}, {"", ""}, {"", "", ""},
		{"ab"}, {"a", "b"}, {"", "ab"}, {"ab", ""}, {"a", "", "b"}, {"b", "a"}, {"ba"},
		{"\x00\x00\x00\x00"}, {"\x00\x00\x00\x01a"}, {"a\x00\x00\x00\x01b"}, {"\x00", "\x00"},
	}
	inputs, tags := map[string]int{}, map[string]int{}
	for domain := range 256 {
		for i, parts := range lists {
			in, tag := sha.Input(byte(domain), parts), sha.Tag(byte(domain), parts)
			at := domain*len(lists) + i
			if other, ok := inputs[in]; ok {
				t.Errorf("lists %d and %d have the same input %q", other, at, in)
			}
			if other, ok := tags[tag]; ok {
				t.Errorf("lists %d and %d have the same tag %x", other, at, tag)
			}
			inputs[in], tags[tag] = at, at
		}
	}
}
