package store_test

import (
	"encoding/hex"
	"fmt"
	"maps"
	"math"
	"math/rand/v2"
	"slices"
	"strconv"
	"testing"

	"voussoir/api"
	"voussoir/path"
	"voussoir/store"
	"voussoir/trie"
)

// state are the values that should be there, by the strings of their paths.
type state map[string]string

// trie is a trie of these values.
func (v state) trie() *trie.Trie {
	x := trie.New()
	for _, key := range slices.Sorted(maps.Keys(v)) {
		x.Set(key, v[key])
	}
	return x
}

// keyOf is a second way to the string of a path.
func keyOf(p api.Path) (string, bool) {
	if p.Kind < 1 || p.Kind > 8 {
		return "", false
	}
	form := []string{"clients/%d/clientState", "clients/%d/consensusStates/%d", "connections/%d", "channelEnds/channels/%d",
		"commitments/channels/%d/sequences/%d", "receipts/channels/%d/sequences/%d", "acks/channels/%d/sequences/%d",
		"nextSequenceRecv/channels/%d"}[p.Kind-1]
	if slices.Contains([]int{2, 5, 6, 7}, p.Kind) {
		return fmt.Sprintf(form, p.A, p.B), true
	}
	return fmt.Sprintf(form, p.A), p.B == 0
}

// get is what these values tell of a path.
func (v state) get(p api.Path) (string, bool) {
	key, ok := keyOf(p)
	if !ok {
		return "", false
	}
	value, ok := v[key]
	return value, ok
}

// twin is a store beside what it should have, now and at each height. What is
// done to a twin is done to both, and what the store answers is held against
// the chapter.
type twin struct {
	*store.Store
	now  state
	past []state
}

func newTwin() *twin {
	return &twin{Store: store.New(), now: state{}, past: []state{{}}}
}

func (w *twin) set(t *testing.T, p api.Path, value string) {
	t.Helper()
	want := api.ErrPathForm
	if key, ok := keyOf(p); ok {
		w.now[key], want = value, api.OK
	}
	if got := w.Set(p, value); got != want {
		t.Errorf("Set(%+v, %s) is %d, want %d", p, quote(value), got, want)
	}
}

func (w *twin) remove(t *testing.T, p api.Path) {
	t.Helper()
	want := api.ErrPathForm
	if key, ok := keyOf(p); ok {
		delete(w.now, key)
		want = api.OK
	}
	if got := w.Delete(p); got != want {
		t.Errorf("Delete(%+v) is %d, want %d", p, got, want)
	}
}

func (w *twin) commit(t *testing.T) {
	t.Helper()
	w.past = append(w.past, maps.Clone(w.now))
	if got, want := w.Commit(), len(w.past)-1; got != want {
		t.Errorf("Commit is %d, want %d", got, want)
	}
}

func (w *twin) discard() {
	w.Discard()
	w.now = maps.Clone(w.past[len(w.past)-1])
}

// mustHold holds all that the store answers against what it should have.
func (w *twin) mustHold(t *testing.T, what string) {
	t.Helper()
	if got, want := w.Height(), len(w.past)-1; got != want {
		t.Errorf("%s: Height is %d, want %d", what, got, want)
	}
	w.mustHaveNow(t, what)
	for height := range w.past {
		w.mustHaveAt(t, height, what+", height "+strconv.Itoa(height))
	}
	for _, height := range []int{-1, len(w.past), math.MinInt, math.MaxInt} {
		mustNotBeThere(t, w.Store, height, what)
	}
}

// mustHaveNow holds what is there now against what should be.
func (w *twin) mustHaveNow(t *testing.T, what string) {
	t.Helper()
	if got := w.Len(); got != len(w.now) {
		t.Errorf("%s: the current trie has %d values, want %d", what, got, len(w.now))
	}
	for _, p := range slices.Concat(places(), noPlaces()) {
		want, there := w.now.get(p)
		if got, ok := w.Get(p); got != want || ok != there {
			t.Errorf("%s: Get(%+v) is %s, %t, want %s, %t", what, p, quote(got), ok, quote(want), there)
		}
	}
}

// mustHaveAt holds what a height has against what it should have.
func (w *twin) mustHaveAt(t *testing.T, height int, what string) {
	t.Helper()
	x := w.past[height].trie()
	root := x.Root()
	if got, err := w.Root(height); got != root || err != api.OK {
		t.Errorf("%s: Root is %x, %d, want %x", what, got, err, root)
	}
	for _, p := range places() {
		want, there := w.past[height].get(p)
		if got, ok := w.Value(height, p); got != want || ok != there {
			t.Errorf("%s: Value of %+v is %s, %t, want %s, %t", what, p, quote(got), ok, quote(want), there)
		}
		key, _ := keyOf(p)
		proof, err := w.Prove(height, p)
		if err != api.OK || !equal(proof, x.Prove(key)) {
			t.Errorf("%s: Prove of %+v is %s, %d, want %s", what, p, show(proof), err, show(x.Prove(key)))
		}
		if trie.Has(root, key, want, proof) != there || trie.Lacks(root, key, proof) == there {
			t.Errorf("%s: the proof of %+v is not accepted as it should be: %s", what, p, show(proof))
		}
	}
	for _, p := range noPlaces() {
		mustHaveNoPlaceAt(t, w.Store, height, p, what)
	}
}

// mustHaveNoPlaceAt wants Value and Prove to refuse a path at a height that is
// there.
func mustHaveNoPlaceAt(t *testing.T, s *store.Store, height int, p api.Path, what string) {
	t.Helper()
	if value, ok := s.Value(height, p); value != "" || ok {
		t.Errorf("%s: Value of %+v is %s, %t", what, p, quote(value), ok)
	}
	if proof, err := s.Prove(height, p); err != api.ErrPathForm || !equal(proof, api.Proof{}) {
		t.Errorf("%s: Prove of %+v is %s, %d", what, p, show(proof), err)
	}
}

// mustNotBeThere wants all that a height is asked to be refused, at paths with
// a string and without.
func mustNotBeThere(t *testing.T, s *store.Store, height int, what string) {
	t.Helper()
	if root, err := s.Root(height); root != "" || err != api.ErrStoreHeight {
		t.Errorf("%s: Root(%d) is %x, %d", what, height, root, err)
	}
	for _, p := range slices.Concat(places(), noPlaces()) {
		if value, ok := s.Value(height, p); value != "" || ok {
			t.Errorf("%s: Value(%d, %+v) is %s, %t", what, height, p, quote(value), ok)
		}
		if proof, err := s.Prove(height, p); err != api.ErrStoreHeight || !equal(proof, api.Proof{}) {
			t.Errorf("%s: Prove(%d, %+v) is %s, %d", what, height, p, show(proof), err)
		}
	}
}

// places are paths of every kind, which differ in a kind or a number alone.
func places() []api.Path {
	out := []api.Path{{Kind: 5, A: 3, B: 7}, {Kind: 5, A: 7, B: 3}, {Kind: 7, A: 1, B: 11}, {Kind: 7, A: 11, B: 1}}
	for kind := api.PathClient; kind <= api.PathNext; kind++ {
		out = append(out, api.Path{Kind: kind}, api.Path{Kind: kind, A: 1}, api.Path{Kind: kind, A: math.MaxUint64})
		if slices.Contains([]int{2, 5, 6, 7}, kind) {
			out = append(out, api.Path{Kind: kind, B: 1}, api.Path{Kind: kind, A: 1, B: math.MaxUint64})
		}
	}
	return out
}

// noPlaces are paths that have no string: of no kind, and with a number that
// the strings of their kind do not contain.
func noPlaces() []api.Path {
	out := []api.Path{{}, {A: 1}, {B: 1}, {A: 3, B: 7}}
	for _, kind := range []int{-1, 9, -5, 5 + 256, 5 + 1<<32, math.MinInt, math.MinInt + 5, math.MaxInt} {
		out = append(out, api.Path{Kind: kind}, api.Path{Kind: kind, A: 3, B: 7})
	}
	for _, kind := range []int{1, 3, 4, 8} {
		out = append(out, api.Path{Kind: kind, B: 1}, api.Path{Kind: kind, A: 1, B: 1}, api.Path{Kind: kind, A: 1, B: math.MaxUint64})
	}
	return out
}

// texts are values of many kinds.
func texts() []string {
	out := []string{"", "x", "y", "xx", "\x00", "\xff\xfe", "é", "connections/3"}
	for _, n := range []int{31, 32, 33, 55, 64, 4096, 4097, 1000000} {
		text := make([]byte, n)
		for i := range text {
			text[i] = byte(i * 7)
		}
		out = append(out, string(text))
	}
	return out
}

// chance answers the same numbers in each run of the tests.
func chance(seed uint64) *rand.Rand { return rand.New(rand.NewPCG(seed, 9)) }

// quote keeps a message readable.
func quote(s string) string {
	if len(s) > 80 {
		return strconv.Quote(s[:40] + ".." + s[len(s)-40:])
	}
	return strconv.Quote(s)
}

func show(p api.Proof) string {
	return fmt.Sprintf("%t, path %x, value %s, beside %x", p.Leaf, p.Path, quote(p.Value), p.Beside)
}

func equal(a, b api.Proof) bool {
	return a.Leaf == b.Leaf && a.Path == b.Path && a.Value == b.Value && slices.Equal(a.Beside, b.Beside)
}

// deep is a proof that shares no list with another.
func deep(p api.Proof) api.Proof {
	p.Beside = slices.Clone(p.Beside)
	return p
}

func mustHaveRoot(t *testing.T, s *store.Store, height int, want, what string) {
	t.Helper()
	for range 2 {
		if got, err := s.Root(height); hex.EncodeToString([]byte(got)) != want || err != api.OK {
			t.Errorf("%s: Root(%d) is %x, %d, want %s", what, height, got, err, want)
		}
	}
}

func mustGet(t *testing.T, s *store.Store, p api.Path, want string, there bool) {
	t.Helper()
	if got, ok := s.Get(p); got != want || ok != there {
		t.Errorf("Get(%+v) is %s, %t, want %s, %t", p, quote(got), ok, quote(want), there)
	}
}

func mustValue(t *testing.T, s *store.Store, height int, p api.Path, want string, there bool) {
	t.Helper()
	if got, ok := s.Value(height, p); got != want || ok != there {
		t.Errorf("Value(%d, %+v) is %s, %t, want %s, %t", height, p, quote(got), ok, quote(want), there)
	}
}

// TestTheSecondWayToKeys holds it against package path: the tests of this
// package go by it.
func TestTheSecondWayToKeys(t *testing.T) {
	for _, p := range places() {
		if key, ok := keyOf(p); !ok {
			t.Errorf("%+v has no key", p)
		} else if s, err := path.Print(p); s != key || err != api.OK {
			t.Errorf("%+v has the string %s, %d, and the key %s", p, s, err, key)
		}
	}
	for _, p := range noPlaces() {
		if key, ok := keyOf(p); ok {
			t.Errorf("%+v has the key %s", p, key)
		}
		if s, err := path.Print(p); s != "" || err != api.ErrPathForm {
			t.Errorf("%+v has the string %s, %d", p, s, err)
		}
	}
}
