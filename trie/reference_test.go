package trie_test

import (
	"crypto/sha256"
	"encoding/binary"
	"encoding/hex"
	"fmt"
	"maps"
	"math/rand/v2"
	"slices"
	"strconv"
	"strings"
	"testing"

	"voussoir/api"
	"voussoir/trie"
)

// The functions from here to refLacks are a second way to the answers, by the
// library's means. They take paths for texts of 256 digits.

func refTag(domain byte, parts ...string) string {
	in := []byte{domain}
	for _, part := range parts {
		in = binary.BigEndian.AppendUint32(in, uint32(len(part)))
		in = append(in, part...)
	}
	sum := sha256.Sum256(in)
	return string(sum[:])
}

func refPath(key string) string { return refTag(6, key) }

func refLeaf(path, value string) string { return refTag(7, path, value) }

func refInner(a, b string) string { return refTag(8, a, b) }

func refNothing() string { return refTag(9) }

func refBits(path string) string {
	var out strings.Builder
	for i := range len(path) {
		fmt.Fprintf(&out, "%08b", path[i])
	}
	return out.String()
}

// values are what a trie should have, by their keys.
type values map[string]string

// stored is a value with the digits of its path.
type stored struct{ bits, path, value string }

func (v values) stored() []stored {
	var out []stored
	for key, value := range v {
		path := refPath(key)
		out = append(out, stored{refBits(path), path, value})
	}
	return out
}

// under are those whose paths begin with these digits.
func under(all []stored, bits string) []stored {
	var out []stored
	for _, s := range all {
		if strings.HasPrefix(s.bits, bits) {
			out = append(out, s)
		}
	}
	return out
}

func refHash(all []stored, bits string) string {
	all = under(all, bits)
	if len(all) == 0 {
		return refNothing()
	}
	if len(all) == 1 {
		return refLeaf(all[0].path, all[0].value)
	}
	return refInner(refHash(all, bits+"0"), refHash(all, bits+"1"))
}

func (v values) root() string { return refHash(v.stored(), "") }

func (v values) proof(key string) api.Proof {
	all, bits := v.stored(), refBits(refPath(key))
	var p api.Proof
	for depth := 0; ; depth++ {
		switch here := under(all, bits[:depth]); len(here) {
		case 0:
			return p
		case 1:
			p.Leaf, p.Path, p.Value = true, here[0].path, here[0].value
			return p
		}
		p.Beside = append(p.Beside, refHash(all, flip(bits[:depth+1], depth)))
	}
}

// flip is a text of digits with one of them turned over.
func flip(bits string, i int) string {
	return bits[:i] + string('0'+'1'-bits[i]) + bits[i+1:]
}

// refClimb goes from the root down, and pads the digits, so that it answers
// for more elements than a path has bits, too.
func refClimb(end, bits string, beside []string) string {
	if len(beside) == 0 {
		return end
	}
	if bits == "" {
		bits = "0"
	}
	below := refClimb(end, bits[1:], beside[1:])
	if bits[0] == '0' {
		return refInner(below, beside[0])
	}
	return refInner(beside[0], below)
}

func refValid(beside []string) bool {
	for _, b := range beside {
		if len(b) != 32 {
			return false
		}
	}
	return len(beside) <= 256
}

func refHas(root, key, value string, p api.Proof) bool {
	path := refPath(key)
	return p.Leaf && p.Path == path && p.Value == value && refValid(p.Beside) &&
		refClimb(refLeaf(path, value), refBits(path), p.Beside) == root
}

func refLacks(root, key string, p api.Proof) bool {
	path := refPath(key)
	bits := refBits(path)
	if !refValid(p.Beside) {
		return false
	}
	if !p.Leaf {
		return p.Path == "" && p.Value == "" && refClimb(refNothing(), bits, p.Beside) == root
	}
	return len(p.Path) == 32 && p.Path != path && strings.HasPrefix(refBits(p.Path), bits[:len(p.Beside)]) &&
		refClimb(refLeaf(p.Path, p.Value), bits, p.Beside) == root
}

// Keys whose paths agree in many first bits: the twins in exactly 51 of them,
// the first two of the triplets in 44, and those with the third one in 38.
var (
	twins    = []string{"k19870333", "k16385699"}
	triplets = []string{"k28217673", "k57258507", "k6631172"}
)

const (
	twinBits    = 51
	tripletBits = 38
)

// run is a text of n bytes that repeats only after 256 of them, if step is odd.
func run(n, step int) string {
	out := make([]byte, n)
	for i := range out {
		out[i] = byte(i * step)
	}
	return string(out)
}

// texts are empty, short, long and of no UTF-8, and around the ends of blocks.
func texts() []string {
	out := []string{"", "k", "l", "kk", "\x00", "\x00\x00", "\xff\xfe", "é", "clients/0/clientState"}
	for _, n := range []int{31, 32, 33, 46, 47, 50, 51, 55, 56, 63, 64, 65, 127, 128, 4096, 65536} {
		out = append(out, run(n, 5))
	}
	return append(out, strings.Repeat("x", 1000000))
}

// hashes are n different ones.
func hashes(n int, seed string) []string {
	var out []string
	for i := range n {
		out = append(out, refTag(0, seed, strconv.Itoa(i)))
	}
	return out
}

// chance answers the same numbers in each run of the tests.
func chance(seed uint64) *rand.Rand { return rand.New(rand.NewPCG(seed, 8)) }

// short keeps a message readable.
func short(s string) string {
	if len(s) > 80 {
		return s[:40] + ".." + s[len(s)-40:]
	}
	return s
}

func quote(s string) string { return strconv.Quote(short(s)) }

// show keeps a proof readable.
func show(p api.Proof) string {
	return fmt.Sprintf("%t, path %x, value %s, beside %x", p.Leaf, p.Path, quote(p.Value), p.Beside)
}

func unhex(t *testing.T, s string) string {
	t.Helper()
	out, err := hex.DecodeString(s)
	if err != nil {
		t.Fatal(err)
	}
	return string(out)
}

func mustBe(t *testing.T, got, want, what string) {
	t.Helper()
	if got != want {
		t.Errorf("%s: %x, want %x", what, short(got), short(want))
	}
}

// filled is a trie of these values. They are set in the order of their keys.
func filled(v values) *trie.Trie {
	x := trie.New()
	for _, key := range slices.Sorted(maps.Keys(v)) {
		x.Set(key, v[key])
	}
	return x
}

// of are values that differ from key to key.
func of(keys ...string) values {
	v := values{}
	for _, key := range keys {
		v[key] = "v" + key
	}
	return v
}

// numbered are so many keys.
func numbered(n int) []string {
	var out []string
	for i := range n {
		out = append(out, strconv.Itoa(i))
	}
	return out
}

func equal(a, b api.Proof) bool {
	return a.Leaf == b.Leaf && a.Path == b.Path && a.Value == b.Value && slices.Equal(a.Beside, b.Beside)
}

// deep is a proof that shares no list with another.
func deep(p api.Proof) api.Proof {
	p.Beside = slices.Clone(p.Beside)
	return p
}

func mustProve(t *testing.T, x *trie.Trie, key string, want api.Proof, what string) {
	t.Helper()
	got := x.Prove(key)
	if got.Leaf != want.Leaf {
		t.Errorf("%s: Prove(%s): Leaf is %t", what, quote(key), got.Leaf)
	}
	mustBe(t, got.Path, want.Path, what+": Path of "+quote(key))
	mustBe(t, got.Value, want.Value, what+": Value of "+quote(key))
	if !slices.Equal(got.Beside, want.Beside) {
		t.Errorf("%s: Prove(%s): Beside is %x, want %x", what, quote(key), got.Beside, want.Beside)
	}
}

func mustGet(t *testing.T, x *trie.Trie, v values, key, what string) {
	t.Helper()
	want, there := v[key]
	if got, ok := x.Get(key); got != want || ok != there {
		t.Errorf("%s: Get(%s) is %s, %t", what, quote(key), quote(got), ok)
	}
}

// mustHold holds all that a trie answers against these values, for their keys
// and for others.
func mustHold(t *testing.T, x *trie.Trie, v values, others []string, what string) {
	t.Helper()
	if got := x.Len(); got != len(v) {
		t.Errorf("%s: Len is %d, want %d", what, got, len(v))
	}
	root := v.root()
	mustBe(t, x.Root(), root, what+": Root")
	for _, key := range slices.Concat(slices.Sorted(maps.Keys(v)), others) {
		mustGet(t, x, v, key, what)
		want := v.proof(key)
		mustProve(t, x, key, want, what)
		value, there := v[key]
		mustHas(t, root, key, value, want, there, what)
		mustLacks(t, root, key, want, !there, what)
	}
}

// mustHas holds Has against what the case wants and what the second way tells.
func mustHas(t *testing.T, root, key, value string, p api.Proof, want bool, what string) {
	t.Helper()
	if ref := refHas(root, key, value, p); ref != want {
		t.Errorf("%s: of %s, the second way to Has tells %t", what, quote(key), ref)
	}
	before := deep(p)
	for range 2 {
		if got := trie.Has(root, key, value, p); got != want {
			t.Errorf("%s: of %s, Has tells %t", what, quote(key), got)
		}
	}
	if !equal(p, before) {
		t.Errorf("%s: of %s, Has changed the proof", what, quote(key))
	}
}

// mustLacks is to Lacks what mustHas is to Has.
func mustLacks(t *testing.T, root, key string, p api.Proof, want bool, what string) {
	t.Helper()
	if ref := refLacks(root, key, p); ref != want {
		t.Errorf("%s: of %s, the second way to Lacks tells %t", what, quote(key), ref)
	}
	before := deep(p)
	for range 2 {
		if got := trie.Lacks(root, key, p); got != want {
			t.Errorf("%s: of %s, Lacks tells %t", what, quote(key), got)
		}
	}
	if !equal(p, before) {
		t.Errorf("%s: of %s, Lacks changed the proof", what, quote(key))
	}
}
