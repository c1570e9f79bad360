package store_test

import (
	"math"
	"slices"
	"strconv"
	"testing"
	"unsafe"

	"voussoir/api"
	"voussoir/store"
	"voussoir/trie"
)

// The roots are worked out outside of Go.
const (
	rootOfNothing = "2b4c342f5433ebe591a1da77e013d1b72475562d48578dca8b84bac6651c3cb9"
	rootOfX       = "3885d68b2275126361112cebc47d5241b0ded6cb586fd6ab273f03903b721d1d" // x at commitments/channels/3/sequences/7
	rootOfY       = "eff58f2a7a017fb6a497320b7c0ebf19f9918e94922300a56e5810ac5b81d92f"
	rootOfEmpty   = "b9e0e520cc90a98253477f2c5212ec68d6b06e468f5ef41d18d30ef8065feb23"
	rootOfTwo     = "1e23d2f1d0794ed1a23f6b33b188a3fd92622dbc3f9461f3a8a1308d1ef52e92" // of X, and ff 00 at connections/0
	rootOfEvery   = "b9f99d9b6c73144dc530b11d2edf4b94b2b325e0f4c3af056a4094ff7ba254a4" // of one path of every kind
	rootOfHundred = "b080ec3d3784b85f2a83add1b6df4322a532dad6e5835a7f89e3de7a299da1b4" // i at acks/channels/i/sequences/i*i
)

// The places that most tests go by.
var (
	sent = api.Path{Kind: api.PathCommitment, A: 3, B: 7}
	link = api.Path{Kind: api.PathConnection}
	next = api.Path{Kind: api.PathNext, A: 1}
)

// O1

func TestTheNumbersOfTheErrors(t *testing.T) {
	if api.ErrPathForm != 40 || api.ErrStoreHeight != 90 || api.OK != 0 {
		t.Error(api.ErrPathForm, api.ErrStoreHeight, api.OK)
	}
}

func TestANewStore(t *testing.T) {
	w := newTwin()
	if got := w.Height(); got != 0 {
		t.Errorf("Height is %d", got)
	}
	mustHaveRoot(t, w.Store, 0, rootOfNothing, "a new store")
	for _, p := range places() {
		mustGet(t, w.Store, p, "", false)
		mustValue(t, w.Store, 0, p, "", false)
		if proof, err := w.Prove(0, p); err != api.OK || !equal(proof, api.Proof{}) {
			t.Errorf("Prove(0, %+v) is %s, %d", p, show(proof), err)
		}
	}
	w.mustHold(t, "a new store")
}

func TestRootsWordForWord(t *testing.T) {
	s := store.New()
	commit := func(want, what string) {
		t.Helper()
		mustHaveRoot(t, s, s.Commit(), want, what)
	}
	s.Set(sent, "x")
	commit(rootOfX, "x")
	s.Set(sent, "y")
	commit(rootOfY, "y")
	s.Set(sent, "")
	commit(rootOfEmpty, "an empty value")
	s.Set(link, "\xff\x00")
	s.Set(sent, "x")
	commit(rootOfTwo, "two values")
	s.Delete(link)
	commit(rootOfX, "x again")
	s.Delete(sent)
	commit(rootOfNothing, "nothing")
	for i := range uint64(100) {
		s.Set(api.Path{Kind: api.PathAck, A: i, B: i * i}, strconv.Itoa(int(i)))
	}
	commit(rootOfHundred, "a hundred values")
	for height, want := range []string{rootOfNothing, rootOfX, rootOfY, rootOfEmpty, rootOfTwo, rootOfX, rootOfNothing, rootOfHundred} {
		mustHaveRoot(t, s, height, want, "in the end")
	}
}

// TestKeysWordForWord looks for what was set under the strings of chapter 4's
// table.
func TestKeysWordForWord(t *testing.T) {
	s := store.New()
	rows := []struct {
		p          api.Path
		key, value string
	}{
		{api.Path{Kind: 1}, "clients/0/clientState", "v1"},
		{api.Path{Kind: 2, A: 1, B: 2}, "clients/1/consensusStates/2", "v2"},
		{api.Path{Kind: 3, A: 3}, "connections/3", "v3"},
		{api.Path{Kind: 4, A: 4}, "channelEnds/channels/4", "v4"},
		{api.Path{Kind: 5, A: 3, B: 7}, "commitments/channels/3/sequences/7", "v5"},
		{api.Path{Kind: 6, A: 6, B: 1}, "receipts/channels/6/sequences/1", "v6"},
		{api.Path{Kind: 7, A: math.MaxUint64, B: math.MaxUint64}, "acks/channels/18446744073709551615/sequences/18446744073709551615", "v7"},
		{api.Path{Kind: 8, A: 8}, "nextSequenceRecv/channels/8", "v8"},
	}
	for _, row := range rows {
		if err := s.Set(row.p, row.value); err != api.OK {
			t.Errorf("Set(%+v) is %d", row.p, err)
		}
		if got, ok := s.Trie.Get(row.key); got != row.value || !ok {
			t.Errorf("the current trie has %s, %t at %s", quote(got), ok, row.key)
		}
	}
	s.Commit()
	mustHaveRoot(t, s, 1, rootOfEvery, "every kind")
	root, _ := s.Root(1)
	for _, row := range rows {
		proof, err := s.Prove(1, row.p)
		if err != api.OK || !trie.Has(root, row.key, row.value, proof) || trie.Lacks(root, row.key, proof) {
			t.Errorf("Prove(1, %+v) is %s, %d", row.p, show(proof), err)
		}
	}
	for _, row := range rows {
		s.Delete(row.p)
		if got, ok := s.Trie.Get(row.key); got != "" || ok {
			t.Errorf("the current trie has %s, %t at %s", quote(got), ok, row.key)
		}
	}
}

func TestSetGetAndDeleteAtEachPlaceAlone(t *testing.T) {
	for _, p := range places() {
		w := newTwin()
		what := "alone"
		for _, value := range []string{"x", "", "x", "x", "y"} {
			w.set(t, p, value)
			mustGet(t, w.Store, p, value, true)
			w.mustHaveNow(t, what)
			w.commit(t)
		}
		w.remove(t, p)
		mustGet(t, w.Store, p, "", false)
		w.commit(t)
		w.remove(t, p)
		w.commit(t)
		w.mustHold(t, what)
	}
}

func TestAllPlacesAtOnce(t *testing.T) {
	w := newTwin()
	for i, p := range places() {
		w.set(t, p, "v"+strconv.Itoa(i))
	}
	w.mustHold(t, "all places")
	w.commit(t)
	w.mustHold(t, "all places, behind a Commit")
	for i, p := range places() {
		switch i % 3 {
		case 0:
			w.remove(t, p)
		case 1:
			w.set(t, p, "")
		}
	}
	w.commit(t)
	w.mustHold(t, "a third of the places")
	for _, p := range places() {
		w.remove(t, p)
		w.mustHaveNow(t, "taken away one by one")
	}
	w.commit(t)
	w.mustHold(t, "no place any more")
	mustHaveRoot(t, w.Store, 3, rootOfNothing, "no place any more")
}

func TestValuesOfEveryKind(t *testing.T) {
	w := newTwin()
	for _, value := range texts() {
		w.set(t, sent, value)
		w.set(t, next, value)
		w.commit(t)
		mustGet(t, w.Store, sent, value, true)
		mustValue(t, w.Store, w.Height(), sent, value, true)
	}
	for i, value := range texts() {
		mustValue(t, w.Store, i+1, next, value, true)
	}
	w.mustHold(t, "values of every kind")
}

func TestAnEmptyValueIsAValue(t *testing.T) {
	s := store.New()
	s.Set(sent, "")
	mustGet(t, s, sent, "", true)
	mustGet(t, s, next, "", false)
	s.Commit()
	mustHaveRoot(t, s, 1, rootOfEmpty, "an empty value")
	mustValue(t, s, 1, sent, "", true)
	mustValue(t, s, 1, next, "", false)
	root, _ := s.Root(1)
	if proof, err := s.Prove(1, sent); err != api.OK || !trie.Has(root, "commitments/channels/3/sequences/7", "", proof) {
		t.Errorf("Prove is %s, %d", show(proof), err)
	}
}

func TestDeleteOfWhatIsNotThere(t *testing.T) {
	w := newTwin()
	for _, p := range places() {
		w.remove(t, p)
	}
	w.commit(t)
	w.mustHold(t, "deletes in a new store")
	w.set(t, sent, "x")
	for _, p := range places() {
		if p != sent {
			w.remove(t, p)
		}
	}
	w.commit(t)
	w.mustHold(t, "deletes beside a value")
	mustHaveRoot(t, w.Store, 2, rootOfX, "deletes beside a value")
}

func TestPathsWithoutAString(t *testing.T) {
	for _, filled := range []bool{false, true} {
		w := newTwin()
		if filled {
			for i, p := range places() {
				w.set(t, p, "v"+strconv.Itoa(i))
			}
			w.commit(t)
		}
		w.set(t, sent, "x")
		for _, p := range noPlaces() {
			for _, value := range []string{"", "x", "y"} {
				w.set(t, p, value)
				mustGet(t, w.Store, p, "", false)
			}
			w.mustHaveNow(t, "behind Set of no place")
			w.remove(t, p)
			mustGet(t, w.Store, p, "", false)
			w.mustHaveNow(t, "behind Delete of no place")
		}
		w.mustHold(t, "behind Set and Delete of no place")
		w.commit(t)
		w.mustHold(t, "behind Set, Delete and Commit")
		w.discard()
		w.mustHold(t, "behind Set, Delete, Commit and Discard")
	}
}

// TestTheCurrentTrieIsEmbedded goes by its methods that the store has by that
// alone.
func TestTheCurrentTrieIsEmbedded(t *testing.T) {
	w := newTwin()
	w.set(t, sent, "x")
	w.set(t, next, "1")
	w.commit(t)
	w.remove(t, next)
	if got := w.Len(); got != 1 {
		t.Errorf("Len is %d", got)
	}
	x := w.Copy()
	if x.Root() != w.now.trie().Root() {
		t.Error("a copy of the current trie has another root")
	}
	x.Set("connections/0", "y")
	x.Delete("commitments/channels/3/sequences/7")
	w.mustHold(t, "beside a copy of the current trie")
	w.Discard()
	if got := w.Len(); got != 2 {
		t.Errorf("behind Discard, Len is %d", got)
	}
}

// TestPathsWithoutAStringMissTheEmptyKey puts a value into the current trie
// where only a path with an empty string would find it.
func TestPathsWithoutAStringMissTheEmptyKey(t *testing.T) {
	s := store.New()
	s.Trie.Set("", "x")
	s.Commit()
	for _, p := range noPlaces() {
		mustGet(t, s, p, "", false)
		mustHaveNoPlaceAt(t, s, 1, p, "with a value of the empty key")
		s.Set(p, "y")
		s.Delete(p)
		if got, ok := s.Trie.Get(""); got != "x" || !ok {
			t.Errorf("%+v reached the empty key: it has %s, %t", p, quote(got), ok)
		}
	}
}

// O2

func TestTheChaptersExample(t *testing.T) {
	s := store.New()
	if got := s.Height(); got != 0 {
		t.Errorf("Height is %d", got)
	}
	s.Set(sent, "x")
	if got := s.Commit(); got != 1 {
		t.Errorf("Commit is %d", got)
	}
	s.Set(sent, "y")
	mustValue(t, s, 1, sent, "x", true)
	mustGet(t, s, sent, "y", true)
	s.Discard()
	mustGet(t, s, sent, "x", true)
}

func TestCommitCounts(t *testing.T) {
	w := newTwin()
	for i := range 500 {
		if i%3 != 0 { // else nothing changes
			w.set(t, api.Path{Kind: api.PathReceipt, A: uint64(i % 5), B: uint64(i)}, strconv.Itoa(i))
		}
		if got := w.Commit(); got != i+1 {
			t.Errorf("Commit %d is %d", i, got)
		}
		if got := w.Height(); got != i+1 {
			t.Errorf("behind Commit %d, Height is %d", i, got)
		}
	}
	for height := range 501 {
		for _, i := range []int{height - 2, height - 1, height, height + 1} {
			want, there := strconv.Itoa(i), i >= 0 && i < height && i%3 != 0
			if !there {
				want = ""
			}
			if i >= 0 {
				mustValue(t, w.Store, height, api.Path{Kind: api.PathReceipt, A: uint64(i % 5), B: uint64(i)}, want, there)
			}
		}
	}
}

func TestCommitWithoutAChange(t *testing.T) {
	w := newTwin()
	w.commit(t)
	w.commit(t)
	w.mustHold(t, "without values")
	w.set(t, sent, "x")
	for range 3 {
		w.commit(t)
	}
	w.mustHold(t, "with a value")
	for height, want := range []string{rootOfNothing, rootOfNothing, rootOfNothing, rootOfX, rootOfX, rootOfX} {
		mustHaveRoot(t, w.Store, height, want, "without a change")
	}
	w.set(t, sent, "y")
	w.mustHold(t, "with a value that changed behind the last Commit")
	w.commit(t)
	w.mustHold(t, "with a value that changed")
}

func TestWhatIsSetReachesNoHeightAheadOfCommit(t *testing.T) {
	w := newTwin()
	w.set(t, sent, "x")
	w.mustHold(t, "set behind New")
	w.commit(t)
	w.mustHold(t, "committed")
	w.set(t, sent, "y")
	w.set(t, next, "1")
	w.mustHold(t, "set behind Commit")
	w.remove(t, sent)
	w.mustHold(t, "deleted behind Commit")
	w.commit(t)
	w.mustHold(t, "committed twice")
	w.set(t, sent, "z")
	w.remove(t, next)
	w.mustHold(t, "changed behind both")
}

func TestDiscardInANewStore(t *testing.T) {
	w := newTwin()
	w.discard()
	w.mustHold(t, "at once")
	w.set(t, sent, "x")
	w.set(t, link, "")
	w.discard()
	w.mustHold(t, "behind Set")
	w.discard()
	w.mustHold(t, "twice")
	w.set(t, sent, "y")
	w.mustHold(t, "and set behind it")
	mustHaveRoot(t, w.Store, 0, rootOfNothing, "set behind Discard")
	w.commit(t)
	w.mustHold(t, "and committed")
	mustHaveRoot(t, w.Store, 1, rootOfY, "committed behind Discard")
}

func TestDiscardBehindSetAndDelete(t *testing.T) {
	w := newTwin()
	for i, p := range places() {
		if i%2 == 0 {
			w.set(t, p, "v"+strconv.Itoa(i))
		}
	}
	w.commit(t)
	for i, p := range places() {
		switch i % 4 {
		case 0:
			w.remove(t, p)
		case 1:
			w.set(t, p, "new")
		case 2:
			w.set(t, p, "")
		}
	}
	w.mustHold(t, "changed")
	w.discard()
	w.mustHold(t, "discarded")
	for _, p := range places() {
		w.remove(t, p)
	}
	w.discard()
	w.mustHold(t, "all deleted, and discarded")
}

func TestDiscardBehindCommit(t *testing.T) {
	w := newTwin()
	w.set(t, sent, "x")
	w.commit(t)
	w.discard()
	w.mustHold(t, "at once")
	w.set(t, sent, "y")
	w.commit(t)
	w.set(t, sent, "z")
	w.discard()
	mustGet(t, w.Store, sent, "y", true)
	w.mustHold(t, "behind two heights")
	w.discard()
	mustGet(t, w.Store, sent, "y", true)
	w.mustHold(t, "twice: it goes back no further")
}

func TestWhatIsSetBehindDiscardReachesNoHeight(t *testing.T) {
	w := newTwin()
	w.set(t, sent, "x")
	w.set(t, link, "1")
	w.commit(t)
	for i := range 3 {
		what := "round " + strconv.Itoa(i)
		w.discard()
		w.set(t, sent, "y")
		w.set(t, next, "2")
		w.remove(t, link)
		w.mustHold(t, what+": changed behind Discard")
		w.discard()
		w.mustHold(t, what+": discarded once more")
	}
	w.discard()
	w.set(t, sent, "y")
	w.commit(t)
	w.set(t, sent, "z")
	w.mustHold(t, "committed and changed")
}

func TestHeightsThatAreNotThere(t *testing.T) {
	w := newTwin()
	for i := range 4 {
		heights := []int{-1, -2, i + 1, i + 2, 1000, -1000, 1 << 32, -1 << 32, 1<<32 + i, -1<<32 + i, math.MaxInt32, math.MinInt32,
			math.MinInt, math.MinInt + 1, math.MinInt + i, math.MaxInt - 1, math.MaxInt}
		for _, height := range heights {
			mustNotBeThere(t, w.Store, height, strconv.Itoa(i)+" heights")
		}
		w.mustHold(t, strconv.Itoa(i)+" heights, behind ones that are not there")
		w.set(t, sent, strconv.Itoa(i))
		w.set(t, link, "x")
		w.commit(t)
	}
}

// TestProveNamesTheHeightFirst has a path and a height that are both wrong.
func TestProveNamesTheHeightFirst(t *testing.T) {
	s := store.New()
	for _, c := range []struct {
		height int
		p      api.Path
		want   api.Errno
	}{
		{1, api.Path{}, api.ErrStoreHeight},
		{-1, api.Path{Kind: 9}, api.ErrStoreHeight},
		{1, api.Path{Kind: 3, B: 1}, api.ErrStoreHeight},
		{1, sent, api.ErrStoreHeight},
		{0, api.Path{}, api.ErrPathForm},
		{0, api.Path{Kind: 3, B: 1}, api.ErrPathForm},
		{0, sent, api.OK},
	} {
		if proof, err := s.Prove(c.height, c.p); err != c.want || !equal(proof, api.Proof{}) {
			t.Errorf("Prove(%d, %+v) is %s, %d, want %d", c.height, c.p, show(proof), err, c.want)
		}
	}
}

// O3

// TestHeightsNeverChange keeps what each height answered when it was made.
func TestHeightsNeverChange(t *testing.T) {
	w, r := newTwin(), chance(1)
	type answer struct {
		root   string
		values []string
		proofs []api.Proof
	}
	ask := func(height int) answer {
		var a answer
		a.root, _ = w.Root(height)
		for _, p := range places() {
			value, ok := w.Value(height, p)
			a.values = append(a.values, value+" "+strconv.FormatBool(ok))
			proof, _ := w.Prove(height, p)
			a.proofs = append(a.proofs, proof)
		}
		return a
	}
	kept := []answer{ask(0)}
	for range 25 {
		for _, p := range places() {
			switch r.IntN(4) {
			case 0:
				w.set(t, p, strconv.Itoa(r.IntN(3)))
			case 1:
				w.remove(t, p)
			}
		}
		if r.IntN(3) == 0 {
			w.discard()
		} else {
			w.commit(t)
			kept = append(kept, ask(w.Height()))
		}
		for height, a := range kept {
			b := ask(height)
			if a.root != b.root || !slices.Equal(a.values, b.values) || !slices.EqualFunc(a.proofs, b.proofs, equal) {
				t.Errorf("at height %d, height %d answers otherwise", w.Height(), height)
			}
		}
	}
	w.mustHold(t, "in the end")
}

// TestManySteps goes a long way of all that a store can do.
func TestManySteps(t *testing.T) {
	some := texts()[:8]
	for seed := range uint64(3) {
		w, r := newTwin(), chance(10+seed)
		all, odd := places(), noPlaces()
		for step := range 600 {
			what := "way " + strconv.Itoa(int(seed)) + ", step " + strconv.Itoa(step)
			p := all[r.IntN(len(all))]
			if r.IntN(10) == 0 {
				p = odd[r.IntN(len(odd))]
			}
			switch n := r.IntN(40); {
			case n < 20:
				w.set(t, p, some[r.IntN(len(some))])
			case n < 35:
				w.remove(t, p)
			case n < 37:
				w.commit(t)
			case n < 39:
				w.discard()
			default:
				w.mustHold(t, what)
			}
			w.mustHaveNow(t, what)
		}
		w.mustHold(t, "way "+strconv.Itoa(int(seed)))
	}
}

// TestProofsAreOfTheirHeight holds the proofs of each height against the roots
// of the others.
func TestProofsAreOfTheirHeight(t *testing.T) {
	w := newTwin()
	for _, value := range []string{"x", "y", ""} {
		w.set(t, sent, value)
		w.set(t, next, "beside "+value)
		w.commit(t)
	}
	w.remove(t, sent)
	w.commit(t)
	key, _ := keyOf(sent)
	for height := range 5 {
		value, there := w.Value(height, sent)
		proof, err := w.Prove(height, sent)
		if err != api.OK {
			t.Errorf("Prove(%d) is %d", height, err)
		}
		for other := range 5 {
			root, _ := w.Root(other)
			if got, want := trie.Has(root, key, value, proof), height == other && there; got != want {
				t.Errorf("Has of the proof of height %d at height %d is %t", height, other, got)
			}
			if got, want := trie.Lacks(root, key, proof), height == other && !there; got != want {
				t.Errorf("Lacks of the proof of height %d at height %d is %t", height, other, got)
			}
		}
	}
}

func TestWhatProveAnswersMayBeWrittenInto(t *testing.T) {
	w := newTwin()
	for i, p := range places() {
		if i%2 == 0 {
			w.set(t, p, "v"+strconv.Itoa(i))
		}
	}
	w.commit(t)
	w.commit(t) // a height with the same values
	for _, p := range places() {
		first, _ := w.Prove(1, p)
		second, _ := w.Prove(1, p)
		other, _ := w.Prove(2, p)
		want := deep(first)
		for i := range first.Beside[:cap(first.Beside)] {
			first.Beside[:cap(first.Beside)][i] = "x"
		}
		first.Beside = append(first.Beside, "y", "z")
		first.Path, first.Value, first.Leaf = "p", "v", !first.Leaf
		if !equal(second, want) || !equal(other, want) {
			t.Errorf("%+v: another answer is %s, or %s", p, show(second), show(other))
		}
	}
	w.mustHold(t, "behind proofs that were written into")
}

// TestAnswersOutliveChanges asks for them, and changes the store then.
func TestAnswersOutliveChanges(t *testing.T) {
	w := newTwin()
	w.set(t, sent, "x")
	w.set(t, link, "\xff\x00")
	w.commit(t)
	mustHaveRoot(t, w.Store, 1, rootOfTwo, "two values")
	root, _ := w.Root(1)
	proof, _ := w.Prove(1, sent)
	now, _ := w.Get(sent)
	then, _ := w.Value(1, sent)
	want := deep(proof)
	w.set(t, sent, "y")
	w.remove(t, link)
	w.commit(t)
	w.set(t, next, "1")
	w.discard()
	if now != "x" || then != "x" || !equal(proof, want) || !trie.Has(root, "commitments/channels/3/sequences/7", "x", proof) {
		t.Errorf("answers changed to %s, %s, %s", quote(now), quote(then), show(proof))
	}
}

func TestTwoStoresDoNotTouch(t *testing.T) {
	a, b := newTwin(), newTwin()
	hold := func(what string) {
		t.Helper()
		a.mustHold(t, "the first, "+what)
		b.mustHold(t, "the second, "+what)
	}
	a.set(t, sent, "a")
	hold("behind Set in the first")
	a.commit(t)
	hold("behind Commit in the first")
	b.set(t, sent, "b")
	b.set(t, next, "b")
	hold("behind Set in the second")
	a.discard()
	hold("behind Discard in the first")
	b.commit(t)
	b.commit(t)
	hold("behind Commit in the second")
	a.remove(t, sent)
	hold("behind Delete in the first")
	b.discard()
	a.set(t, next, "a")
	a.commit(t)
	hold("in the end")
}

// TestArgumentsAreNotKept hands in a text whose memory changes afterwards.
func TestArgumentsAreNotKept(t *testing.T) {
	memory := []byte("value")
	w := newTwin()
	w.Set(sent, unsafe.String(&memory[0], len(memory)))
	key, _ := keyOf(sent)
	w.now[key] = "value"
	w.commit(t)
	if string(memory) != "value" {
		t.Errorf("Set changed what was handed in to %s", memory)
	}
	copy(memory, "XXXXX")
	w.mustHold(t, "a value whose memory changed")
}

func TestQuestionsChangeNothing(t *testing.T) {
	w := newTwin()
	w.set(t, sent, "x")
	w.commit(t)
	w.set(t, sent, "y")
	w.set(t, next, "1")
	for range 3 {
		for _, p := range slices.Concat(places(), noPlaces()) {
			for _, height := range []int{-1, 0, 1, 2, math.MinInt, math.MaxInt} {
				w.Value(height, p)
				w.Prove(height, p)
				w.Root(height)
			}
			w.Get(p)
			w.Height()
		}
		w.mustHold(t, "behind questions")
	}
	w.commit(t)
	w.mustHold(t, "behind questions and Commit")
}
