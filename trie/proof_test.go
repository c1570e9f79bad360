package trie_test

import (
	"slices"
	"strconv"
	"strings"
	"testing"

	"voussoir/api"
	"voussoir/trie"
)

// has is a proof of a value with these hashes beside the way, and its root.
func has(key, value string, beside []string) (api.Proof, string) {
	path := refPath(key)
	p := api.Proof{Beside: beside, Leaf: true, Path: path, Value: value}
	return p, refClimb(refLeaf(path, value), refBits(path), beside)
}

// void is a proof of no value that ends at an empty subtree, and its root.
func void(key string, beside []string) (api.Proof, string) {
	return api.Proof{Beside: beside}, refClimb(refNothing(), refBits(refPath(key)), beside)
}

// foreign is a proof of no value that ends at a leaf, and its root.
func foreign(key, path, value string, beside []string) (api.Proof, string) {
	p := api.Proof{Beside: beside, Leaf: true, Path: path, Value: value}
	return p, refClimb(refLeaf(path, value), refBits(refPath(key)), beside)
}

// parted is a path that agrees with that of a key in so many bits, and not in
// the next one.
func parted(key string, bits int) string {
	out := []byte(refPath(key))
	out[bits/8] ^= 128 >> (bits % 8)
	return string(out)
}

// counts are those of hashes beside a way, around the ends of bytes.
func counts() []int {
	return []int{0, 1, 2, 3, 7, 8, 9, 15, 16, 17, 63, 64, 65, 127, 128, 129, 200, 254, 255, 256}
}

// changed are proofs that are as one is but for their hashes.
func changed(p api.Proof) map[string]api.Proof {
	with := func(beside ...[]string) api.Proof {
		q := p
		q.Beside = slices.Concat(beside...)
		return q
	}
	x := hashes(1, "changed")
	out := map[string]api.Proof{
		"one more at the end":      with(p.Beside, x),
		"nothing more at the end":  with(p.Beside, []string{refNothing()}),
		"one more at the start":    with(x, p.Beside),
		"an empty one at the end":  with(p.Beside, []string{""}),
		"many more":                with(p.Beside, hashes(300, "more")),
		"257 others":               with(hashes(257, "others")),
		"a text at the start":      with([]string{"x"}, p.Beside),
		"two more":                 with(p.Beside, x, x),
		"nothing more at the head": with([]string{refNothing()}, p.Beside),
	}
	for i, b := range p.Beside {
		front, back := p.Beside[:i], p.Beside[i+1:]
		at := " " + strconv.Itoa(i)
		out["without"+at] = with(front, back)
		out["changed"+at] = with(front, x, back)
		out["twice"+at] = with(front, []string{b, b}, back)
		out["a bit changed"+at] = with(front, []string{b[:31] + string([]byte{b[31] ^ 1})}, back)
		out["shorter"+at] = with(front, []string{b[:31]}, back)
		out["longer"+at] = with(front, []string{b + "\x00"}, back)
		out["empty"+at] = with(front, []string{""}, back)
		if i > 0 && p.Beside[i-1] != b {
			out["changed places"+at] = with(p.Beside[:i-1], []string{b, p.Beside[i-1]}, back)
		}
	}
	return out
}

// mustRefuse wants neither Has nor Lacks to accept a proof.
func mustRefuse(t *testing.T, root, key, value string, p api.Proof, what string) {
	t.Helper()
	mustHas(t, root, key, value, p, false, what)
	mustLacks(t, root, key, p, false, what)
}

// R4: Has

func TestHasOfAsManyHashesAsThereMayBe(t *testing.T) {
	for _, n := range counts() {
		for _, key := range []string{"", "k", "\xff\xfe", twins[0], run(1000, 3)} {
			for _, value := range []string{"", "v", run(1000, 5)} {
				p, root := has(key, value, hashes(n, key))
				what := strconv.Itoa(n) + " hashes"
				mustHas(t, root, key, value, p, true, what)
				mustLacks(t, root, key, p, false, what)
			}
		}
	}
}

// TestHasGoesByEachBit turns one bit of the way over, of each number.
func TestHasGoesByEachBit(t *testing.T) {
	beside := hashes(256, "bits")
	for _, key := range []string{"k", "l"} {
		path := refPath(key)
		p, root := has(key, "v", beside)
		mustHas(t, root, key, "v", p, true, "256 hashes")
		for i := range 256 {
			other := refClimb(refLeaf(path, "v"), flip(refBits(path), i), beside)
			mustHas(t, other, key, "v", p, false, "bit "+strconv.Itoa(i)+" turned over")
		}
	}
}

// TestHasOfTooManyHashes leads the way on by either bit behind the last one.
func TestHasOfTooManyHashes(t *testing.T) {
	path := refPath("k")
	for _, n := range []int{257, 258, 264, 300, 512, 1000} {
		beside := hashes(n, "many")
		for _, digit := range []string{"0", "1"} {
			bits := refBits(path) + strings.Repeat(digit, n-256)
			root := refClimb(refLeaf(path, "v"), bits, beside)
			mustRefuse(t, root, "k", "v", api.Proof{Beside: beside, Leaf: true, Path: path, Value: "v"}, strconv.Itoa(n)+" hashes")
		}
		p, root := has("k", "v", beside[:256])
		p.Beside = beside
		mustRefuse(t, root, "k", "v", p, strconv.Itoa(n)+" hashes, and the root of 256")
	}
}

// TestHasOfTextsThatAreNoHashes has the root that they lead to: only their
// length is wrong.
func TestHasOfTextsThatAreNoHashes(t *testing.T) {
	for _, n := range []int{1, 2, 9, 256} {
		for _, i := range []int{0, n / 2, n - 1} {
			for _, long := range []int{0, 1, 16, 31, 33, 64, 1000} {
				beside := hashes(n, "texts")
				beside[i] = run(long, 3)
				p, root := has("k", "v", beside)
				mustRefuse(t, root, "k", "v", p, "a text of "+strconv.Itoa(long)+" bytes")
			}
		}
	}
}

func TestHasHoldsTheLeafAgainstTheKeyAndTheValue(t *testing.T) {
	for _, n := range []int{0, 1, 5, 256} {
		p, root := has("k", "v", hashes(n, "leaf"))
		mustHas(t, root, "k", "v", p, true, "the proof")
		q := p
		q.Leaf = false
		mustRefuse(t, root, "k", "v", q, "no leaf")
		for _, path := range []string{"", "k", p.Path[:31], p.Path + "\x00", p.Path + p.Path, parted("k", 0), parted("k", 255), refPath("l"), refPath("")} {
			q := p
			q.Path = path
			mustHas(t, root, "k", "v", q, false, "the path "+quote(path))
			other := refClimb(refLeaf(path, "v"), refBits(p.Path), p.Beside)
			mustHas(t, other, "k", "v", q, false, "the path "+quote(path)+" and its root")
		}
		for _, value := range []string{"", "V", "v\x00", "vv", "k", "\x00"} {
			q, other := has("k", value, p.Beside)
			mustHas(t, other, "k", value, q, true, "the value "+quote(value))
			mustHas(t, root, "k", "v", q, false, "another value in the proof, "+quote(value))
			mustHas(t, other, "k", "v", q, false, "another value in the proof, and its root, "+quote(value))
			mustHas(t, root, "k", value, p, false, "another value, "+quote(value))
			mustHas(t, other, "k", value, p, false, "another value, and its root, "+quote(value))
			mustHas(t, root, "k", value, q, false, "another value in both, "+quote(value))
		}
		for _, key := range []string{"", "l", "kk", "k\x00", p.Path} {
			mustHas(t, root, key, "v", p, false, "another key, "+quote(key))
		}
	}
}

func TestHasOfAnotherRoot(t *testing.T) {
	for _, n := range []int{0, 1, 5, 256} {
		p, root := has("k", "v", hashes(n, "root"))
		for _, other := range wrongRoots(root) {
			mustRefuse(t, other, "k", "v", p, "the root "+quote(other))
		}
	}
}

func wrongRoots(root string) []string {
	return []string{"", "r", root[:31], root[1:], root + "\x00", root + root, string([]byte{root[0] ^ 128}) + root[1:],
		root[:31] + string([]byte{root[31] ^ 1}), refNothing() + "\x00", strings.Repeat("\x00", 32), refPath("k")}
}

// Lacks

func TestLacksOfNothing(t *testing.T) {
	for _, n := range counts() {
		for _, key := range []string{"", "k", "\xff\xfe", twins[0], run(1000, 3)} {
			p, root := void(key, hashes(n, key))
			what := strconv.Itoa(n) + " hashes"
			mustLacks(t, root, key, p, true, what)
			mustHas(t, root, key, "", p, false, what)
			for _, other := range wrongRoots(root) {
				mustRefuse(t, other, key, "", p, what+", the root "+quote(other))
			}
		}
	}
}

func TestLacksOfNothingWithAPathOrAValue(t *testing.T) {
	for _, n := range []int{0, 1, 5, 255, 256} {
		p, root := void("k", hashes(n, "void"))
		for _, text := range []string{"x", "\x00", strings.Repeat("\x00", 32), refPath("k"), refPath("l"), parted("k", min(n, 255))} {
			q := p
			q.Path = text
			mustRefuse(t, root, "k", "", q, "nothing, with the path "+quote(text))
			q.Value = text
			mustRefuse(t, root, "k", text, q, "nothing, with the path and value "+quote(text))
			q.Path = ""
			mustRefuse(t, root, "k", text, q, "nothing, with the value "+quote(text))
		}
		q := p
		q.Leaf = true
		mustRefuse(t, root, "k", "", q, "a leaf without path and value")
		leaf := refClimb(refLeaf("", ""), refBits(refPath("k")), p.Beside)
		mustRefuse(t, leaf, "k", "", q, "a leaf without path and value, and its root")
		mustRefuse(t, leaf, "k", "", p, "nothing, and the root of a leaf without path and value")
	}
}

// TestLacksGoesByTheBitsOfTheKey turns each of them over: the root is another
// one then, also where the way ends at a leaf.
func TestLacksGoesByTheBitsOfTheKey(t *testing.T) {
	beside := hashes(255, "bits")
	bits := refBits(refPath("k"))
	path := parted("k", 255)
	p, root := foreign("k", path, "v", beside)
	mustLacks(t, root, "k", p, true, "255 hashes, and a leaf")
	q, base := void("k", beside)
	mustLacks(t, base, "k", q, true, "255 hashes, and nothing")
	for i := range 255 {
		what := "bit " + strconv.Itoa(i) + " turned over"
		mustLacks(t, refClimb(refLeaf(path, "v"), flip(bits, i), beside), "k", p, false, what)
		mustLacks(t, refClimb(refNothing(), flip(bits, i), beside), "k", q, false, what)
	}
}

// TestLacksOfALeafThatPartsFromTheKey has leaves that part from the key at
// each bit: they must do so behind the way.
func TestLacksOfALeafThatPartsFromTheKey(t *testing.T) {
	for _, n := range counts() {
		beside := hashes(n, "parts")
		for at := range 256 {
			if n > 20 && at > 8 && (at < n-2 || at > n+2) && at < 254 {
				continue
			}
			for _, value := range []string{"", "v"} {
				p, root := foreign("k", parted("k", at), value, beside)
				what := strconv.Itoa(n) + " hashes, a leaf that parts at " + strconv.Itoa(at)
				mustLacks(t, root, "k", p, at >= n, what)
				mustHas(t, root, "k", value, p, false, what)
			}
		}
	}
}

func TestLacksOfTheLeafOfTheKey(t *testing.T) {
	for _, n := range counts() {
		p, root := foreign("k", refPath("k"), "v", hashes(n, "own"))
		what := strconv.Itoa(n) + " hashes"
		mustLacks(t, root, "k", p, false, what)
		mustHas(t, root, "k", "v", p, true, what)
	}
}

// TestLacksOfAPathThatIsNone has the root that it leads to: only its length is
// wrong.
func TestLacksOfAPathThatIsNone(t *testing.T) {
	for _, n := range []int{0, 1, 5, 200} {
		path := parted("k", 255)
		for _, wrong := range []string{"", "k", path[:31], path + "\x00", path[:n/8+1], path + path, refPath("k")[:31], refPath("k") + "\x00", run(1000, 1)} {
			p, root := foreign("k", wrong, "v", hashes(n, "path"))
			mustRefuse(t, root, "k", "v", p, "a path of "+strconv.Itoa(len(wrong))+" bytes")
		}
	}
}

// TestLacksOfAPathThatIsCutBeforeZeros: bytes that are missing are not zeros.
func TestLacksOfAPathThatIsCutBeforeZeros(t *testing.T) {
	key := ""
	for i := 0; !strings.HasSuffix(refPath(key), "\x00"); i++ {
		key = strconv.Itoa(i)
	}
	for n := range 4 {
		p, root := foreign(key, refPath(key)[:31], "v", hashes(n, "cut"))
		mustRefuse(t, root, key, "v", p, "a path that is cut")
		p, root = foreign(key, refPath(key)+"\x00", "v", hashes(n, "cut"))
		mustRefuse(t, root, key, "v", p, "a path that is longer")
	}
}

func TestLacksOfTooManyHashes(t *testing.T) {
	bits := refBits(refPath("k"))
	for _, n := range []int{257, 258, 264, 300, 512, 1000} {
		beside := hashes(n, "many")
		for _, digit := range []string{"0", "1"} {
			way := bits + strings.Repeat(digit, n-256)
			root := refClimb(refNothing(), way, beside)
			mustRefuse(t, root, "k", "", api.Proof{Beside: beside}, strconv.Itoa(n)+" hashes, and nothing")
			for _, path := range []string{parted("k", 255), refPath("k"), refPath("l")} {
				root := refClimb(refLeaf(path, "v"), way, beside)
				p := api.Proof{Beside: beside, Leaf: true, Path: path, Value: "v"}
				mustRefuse(t, root, "k", "v", p, strconv.Itoa(n)+" hashes, and a leaf")
			}
		}
		p, root := void("k", beside[:256])
		p.Beside = beside
		mustRefuse(t, root, "k", "", p, strconv.Itoa(n)+" hashes, and the root of 256")
	}
}

func TestLacksOfTextsThatAreNoHashes(t *testing.T) {
	for _, n := range []int{1, 2, 9, 255} {
		for _, i := range []int{0, n / 2, n - 1} {
			for _, long := range []int{0, 1, 16, 31, 33, 64, 1000} {
				beside := hashes(n, "texts")
				beside[i] = run(long, 3)
				what := "a text of " + strconv.Itoa(long) + " bytes"
				p, root := void("k", beside)
				mustRefuse(t, root, "k", "", p, what+", and nothing")
				p, root = foreign("k", parted("k", 255), "v", beside)
				mustRefuse(t, root, "k", "v", p, what+", and a leaf")
			}
		}
	}
}

func TestLacksHoldsTheLeafAgainstTheRoot(t *testing.T) {
	for _, n := range []int{0, 20, 200} {
		path := parted("k", 250)
		p, root := foreign("k", path, "v", hashes(n, "leaf"))
		mustLacks(t, root, "k", p, true, "the proof")
		for _, value := range []string{"", "V", "vv", "v\x00"} {
			q := p
			q.Value = value
			mustRefuse(t, root, "k", "v", q, "the value "+quote(value))
		}
		for _, other := range []string{parted("k", 251), parted("k", 255), parted("l", 250)} {
			q := p
			q.Path = other
			mustRefuse(t, root, "k", "v", q, "another path")
		}
		q := p
		q.Leaf = false
		mustRefuse(t, root, "k", "v", q, "no leaf")
		// Without hashes, the only leaf of a trie is what every way leads to.
		for _, key := range []string{"", "l", "kk"} {
			mustLacks(t, root, key, p, n == 0, "another key, "+quote(key))
		}
		for _, other := range wrongRoots(root) {
			mustRefuse(t, other, "k", "v", p, "the root "+quote(other))
		}
	}
}

// R5

// TestProofsThatWereChanged changes the proofs of a trie, one thing at a time.
func TestProofsThatWereChanged(t *testing.T) {
	v := of("a", "b", "c", "f", triplets[0], triplets[1])
	x := filled(v)
	root := x.Root()
	for _, key := range []string{"a", "f", triplets[0], triplets[1], triplets[2], "h", "y", "e", "z", ""} {
		p := x.Prove(key)
		value, there := v[key]
		mustHas(t, root, key, value, p, there, "the proof")
		mustLacks(t, root, key, p, !there, "the proof")
		for what, q := range changed(p) {
			mustRefuse(t, root, key, value, q, what)
		}
		q := deep(p)
		q.Leaf = !q.Leaf
		mustRefuse(t, root, key, value, q, "Leaf turned over")
		for _, text := range []string{"", "x", refPath(key), refPath("a"), refPath("none"), p.Path + "x"} {
			q := deep(p)
			if q.Path != text {
				q.Path = text
				mustRefuse(t, root, key, value, q, "the path "+quote(text))
			}
			q = deep(p)
			if q.Value != text {
				q.Value = text
				mustRefuse(t, root, key, text, q, "the value "+quote(text))
			}
		}
		for _, other := range wrongRoots(root) {
			mustRefuse(t, other, key, value, p, "the root "+quote(other))
		}
	}
}

// TestProofsOfOtherKeys hands in each proof for each key: whatever is accepted
// must be so.
func TestProofsOfOtherKeys(t *testing.T) {
	v := of("a", "b", "c", "f", twins[0], triplets[0], triplets[1])
	keys := []string{"a", "b", "c", "f", twins[0], triplets[0], triplets[1], twins[1], triplets[2], "h", "y", "e", "z", "d", "x", ""}
	x := filled(v)
	root := x.Root()
	for _, other := range keys {
		p := x.Prove(other)
		for _, key := range keys {
			value, there := v[key]
			if trie.Has(root, key, value, p) != refHas(root, key, value, p) || trie.Has(root, key, value, p) && !there {
				t.Errorf("Has of the proof of %s accepts it for %s", quote(other), quote(key))
			}
			if trie.Has(root, key, "v"+other, p) != (key == other && there) {
				t.Errorf("Has of the proof of %s, and its value, for %s", quote(other), quote(key))
			}
			if trie.Lacks(root, key, p) != refLacks(root, key, p) || trie.Lacks(root, key, p) && there {
				t.Errorf("Lacks of the proof of %s accepts it for %s", quote(other), quote(key))
			}
		}
	}
}

func TestDifferentValuesHaveDifferentRoots(t *testing.T) {
	seen := map[string]string{}
	for _, a := range []string{"", "1", "2", "-"} {
		for _, b := range []string{"", "1", "2", "-"} {
			for _, twin := range []string{"", "1", "2", "-"} {
				x := trie.New()
				for key, value := range map[string]string{"a": a, "b": b, twins[0]: twin, twins[1]: "3"} {
					if value != "-" {
						x.Set(key, value)
					}
				}
				what := strings.Join([]string{a, b, twin}, "/")
				if other, ok := seen[x.Root()]; ok {
					t.Errorf("%s and %s have the same root", other, what)
				}
				seen[x.Root()] = what
			}
		}
	}
}

// What is handed in

func TestProofsStayAsTheyWere(t *testing.T) {
	for _, n := range []int{0, 1, 5, 256, 257} {
		memory := hashes(n+10, "memory")
		before := slices.Clone(memory)
		p, root := has("k", "v", memory[:n])
		mustHas(t, root, "k", "v", p, n <= 256, "a proof with room behind it")
		p, root = void("k", memory[:n])
		mustLacks(t, root, "k", p, n <= 256, "a proof with room behind it")
		mustHas(t, "", "k", "v", p, false, "a proof with room behind it")
		if !slices.Equal(memory, before) {
			t.Errorf("with %d hashes, the memory behind them was changed", n)
		}
	}
}

// TestAnyProof hands in what no one would have made.
func TestAnyProof(t *testing.T) {
	r := chance(3)
	some := []string{"", "k", "l", "v", refPath("k"), refPath("l"), parted("k", 9), refPath("k")[:31], refNothing(), refLeaf(refPath("l"), "v"), refLeaf(refPath("k"), "v"), run(33, 1)}
	pick := func() string { return some[r.IntN(len(some))] }
	for range 20000 {
		p := api.Proof{Leaf: r.IntN(2) == 0, Path: pick(), Value: pick()}
		for range r.IntN(3) {
			p.Beside = append(p.Beside, pick())
		}
		root, key, value := pick(), pick(), pick()
		if got, want := trie.Has(root, key, value, p), refHas(root, key, value, p); got != want {
			t.Errorf("Has(%q, %q, %q, %s) is %t", root, key, value, show(p), got)
		}
		if got, want := trie.Lacks(root, key, p), refLacks(root, key, p); got != want {
			t.Errorf("Lacks(%q, %q, %s) is %t", root, key, show(p), got)
		}
	}
}
