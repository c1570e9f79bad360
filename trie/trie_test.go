package trie_test

import (
	"maps"
	"slices"
	"strconv"
	"strings"
	"testing"
	"unsafe"

	"voussoir/api"
	"voussoir/sha"
	"voussoir/trie"
)

// R1

func TestHashesWordForWord(t *testing.T) {
	r5, r7, r1000 := run(32, 5), run(32, 7), run(1000, 3)
	for _, c := range []struct{ what, got, want string }{
		{"Path of the empty text", trie.Path(""), "b45482224b439a3d548c65378929b7dcc16a42288530b7b20d5c8103cc879d10"},
		{"Path of k", trie.Path("k"), "6d64df8d4304f39ed015db52bf08d6cdec17d597d9b3a7df75f32bdccd776e2d"},
		{"Path of no UTF-8", trie.Path("\xff\xfe"), "43ee0e9edd297d4d1d5f892ed70842c29d93f953151b5f55eadd8e8a7bd50bbb"},
		{"Path of 32 bytes", trie.Path(r5), "094aec716161d9619a1e24e1f414c49e9da102fbcbbc47605ea7d04897abf8b7"},
		{"Path of 1000 bytes", trie.Path(r1000), "51e8a04a4c922c4b6bbf129f84d7ce0d1d41c18a60e84c13887a074633eed9c9"},
		{"Nothing", trie.Nothing(), "2b4c342f5433ebe591a1da77e013d1b72475562d48578dca8b84bac6651c3cb9"},
		{"Leaf of empty texts", trie.Leaf("", ""), "7e2e8b49f93a4f1fcd3d8c53db08bcd2fb714f1d91d4db7ed0b8786c572f9164"},
		{"Leaf of p and v", trie.Leaf("p", "v"), "2751a79171b016a21c95e530bfd3c0d0f63d95c9f5db3d2224c3bffa30b6e3d3"},
		{"Leaf of an empty value", trie.Leaf(r5, ""), "4e77b7f1db31bc0aa65dc2b42f9e840e870e2a44bdcba472c0b9323cb12fa207"},
		{"Leaf of a long value", trie.Leaf(r5, r1000), "c0079cd3621cc2c9463e8eb7d1adb34374a4bc53439f0aeba2d7ae6351c44eeb"},
		{"Leaf of no UTF-8", trie.Leaf("\xff\xfe", "\x00"), "e177d14f7efbb8499839421e52918e384722e99889ee98364fde0173b8fa94ab"},
		{"Inner of empty texts", trie.Inner("", ""), "92c0a3cd8b571ac5634aa066fcc63d7b62155c36126a29231d97692ff2944875"},
		{"Inner of a and b", trie.Inner("a", "b"), "375ba5428dd15d190f1ec41cda7f8a6fc6bf257721731f55afa9f634511f545e"},
		{"Inner of hashes", trie.Inner(r5, r7), "a676c9780b730ba06330e529fbca6eea2e32b5c26dd079dc2939d3efad55aeca"},
		{"Inner of them the other way round", trie.Inner(r7, r5), "e2a2c642beadab96ed235d6e4cea488693bb87536265b1a45f4e7eddff118daf"},
		{"Inner of a long text", trie.Inner("\xff\xfe", r1000), "1cd40ff198ccd90d33a9cf91d2f20392c8efba97bd55a47d8985a9a56b49e916"},
	} {
		mustBe(t, c.got, unhex(t, c.want), c.what)
	}
}

func TestHashesAreTags(t *testing.T) {
	mustBe(t, trie.Nothing(), sha.Tag(9, nil), "Nothing")
	mustBe(t, trie.Nothing(), refNothing(), "Nothing, the second way")
	for _, a := range texts() {
		mustBe(t, trie.Path(a), sha.Tag(6, []string{a}), "Path of "+quote(a))
		mustBe(t, trie.Path(a), refPath(a), "Path, the second way, of "+quote(a))
		for _, b := range texts() {
			if len(a)+len(b) > 1<<17 && a != "k" {
				continue
			}
			what := quote(a) + " and " + quote(b)
			mustBe(t, trie.Leaf(a, b), sha.Tag(7, []string{a, b}), "Leaf of "+what)
			mustBe(t, trie.Leaf(a, b), refLeaf(a, b), "Leaf, the second way, of "+what)
			mustBe(t, trie.Inner(a, b), sha.Tag(8, []string{a, b}), "Inner of "+what)
			mustBe(t, trie.Inner(a, b), refInner(a, b), "Inner, the second way, of "+what)
		}
	}
}

// R2

func TestATrieWithoutValues(t *testing.T) {
	x := trie.New()
	mustBe(t, x.Root(), trie.Nothing(), "Root")
	mustHold(t, x, values{}, texts(), "no values")
	x.Delete("a")
	x.Delete("")
	mustHold(t, x, values{}, texts(), "no values, of which two were deleted")
}

func TestATrieOfOneValue(t *testing.T) {
	for _, key := range texts() {
		for _, value := range []string{"", "v", key} {
			x := trie.New()
			x.Set(key, value)
			mustBe(t, x.Root(), trie.Leaf(trie.Path(key), value), "Root of "+quote(key))
			mustHold(t, x, values{key: value}, []string{"", "v", "k", "another"}, "one value, "+quote(key))
		}
	}
}

func TestRootWordForWord(t *testing.T) {
	squares := values{}
	for i := range 1000 {
		squares[strconv.Itoa(i)] = strconv.Itoa(i * i)
	}
	for _, c := range []struct {
		v    values
		want string
	}{
		{values{}, "2b4c342f5433ebe591a1da77e013d1b72475562d48578dca8b84bac6651c3cb9"},
		{values{"a": "va"}, "5990fb17ed23c5e9a3d030d414957affec6be069cef44a41b2e130adbdc64404"},
		{values{"a": ""}, "f4277c61cfa313a5ea716ee8b35818396923e1347d9bee49ad06a068cb667f29"},
		{values{"": "x"}, "3b3ca7e29f316d8c37982ec7f3283d923bf00d6b4718f91cfbbe361c94bbaf10"},
		{values{"a": "va", "b": "vb"}, "9705255788699b34d54f71aa59e2576744c1dd823012cb85f5392692fdc0e890"},
		{of("a", "b", "c", "d", "e", "f", "g", "h"), "bb5c617c1a5cb9ee33fb1c296dc856ed6752fc670df9ab2e6bd7d99d1afcaa19"},
		{values{twins[0]: "1", twins[1]: "2"}, "b302e1f9faea4f84cf3d81a94892f821f2c2c54a2791972b4287a0e02d1725a3"},
		{values{triplets[0]: "1", triplets[1]: "2", triplets[2]: "3"}, "a59d22ac51bea7251515959f4a79dc98eb315a3d640875ef3e5a2a839c5c5e04"},
		{squares, "ad52bb264e1b1991344d866a13f2e452d9bc36b1f24ac35552fb4545c587e5ff"},
	} {
		mustBe(t, filled(c.v).Root(), unhex(t, c.want), strconv.Itoa(len(c.v))+" values")
		mustBe(t, c.v.root(), unhex(t, c.want), strconv.Itoa(len(c.v))+" values, the second way")
	}
}

// TestAllTriesOfAFewKeys goes through each choice of keys, some of which have
// nearly the same path, and asks for all of them and for one more.
func TestAllTriesOfAFewKeys(t *testing.T) {
	keys := slices.Concat(twins, triplets, []string{"a", "b", ""})
	roots := map[string]int{}
	for choice := range 1 << len(keys) {
		v := values{}
		var left []string
		for i, key := range keys {
			if choice>>i&1 == 1 {
				v[key] = "v" + key
			} else {
				left = append(left, key)
			}
		}
		x := filled(v)
		mustHold(t, x, v, append(left, "none"), "choice "+strconv.Itoa(choice))
		if other, ok := roots[x.Root()]; ok {
			t.Errorf("choices %d and %d have the same root", other, choice)
		}
		roots[x.Root()] = choice
	}
}

func TestPathsThatAgreeInManyFirstBits(t *testing.T) {
	for _, c := range []struct {
		keys []string
		bits int
	}{{twins, twinBits}, {triplets, tripletBits}} {
		x := filled(of(c.keys...))
		for i, key := range c.keys {
			first, other := refBits(refPath(key)), refBits(refPath(c.keys[(i+1)%len(c.keys)]))
			if first[:c.bits] != other[:c.bits] {
				t.Fatalf("the paths of %v don't agree in %d bits", c.keys, c.bits)
			}
			p := x.Prove(key)
			if len(p.Beside) < c.bits+1 {
				t.Fatalf("%d hashes are beside the way to %s", len(p.Beside), key)
			}
			for depth := range c.bits {
				mustBe(t, p.Beside[depth], trie.Nothing(), "beside the way to "+key+", depth "+strconv.Itoa(depth))
			}
		}
		mustHold(t, x, of(c.keys...), []string{"a", "b", ""}, "keys "+strings.Join(c.keys, " "))
	}
	if got := len(filled(of(twins...)).Prove(twins[0]).Beside); got != twinBits+1 {
		t.Errorf("%d hashes are beside the way to a twin", got)
	}
}

func TestManyValues(t *testing.T) {
	v := of(numbered(700)...)
	x := filled(v)
	if x.Len() != 700 {
		t.Errorf("Len is %d", x.Len())
	}
	mustBe(t, x.Root(), v.root(), "Root")
	root := x.Root()
	for i := range 40 {
		key := strconv.Itoa(i * 35) // the later half of them has no value
		mustGet(t, x, v, key, "many values")
		mustProve(t, x, key, v.proof(key), "many values")
		mustHas(t, root, key, "v"+key, x.Prove(key), i < 20, "many values")
		mustLacks(t, root, key, x.Prove(key), i >= 20, "many values")
	}
}

func TestSetReplaces(t *testing.T) {
	v := of("a", "b", "c", "")
	x := filled(v)
	for _, value := range []string{"x", "", "x", "x", "\x00", run(1000, 3), "va"} {
		x.Set("a", value)
		v["a"] = value
		mustHold(t, x, v, []string{"d"}, "a with "+quote(value))
	}
	x.Set("", "")
	v[""] = ""
	mustHold(t, x, v, []string{"d"}, "an empty value of the empty key")
}

func TestDeleteTakesAway(t *testing.T) {
	keys := slices.Concat(twins, triplets, []string{"a", "b", "c", "d", ""})
	v := of(keys...)
	x := filled(v)
	for _, key := range keys {
		x.Delete(key)
		delete(v, key)
		mustHold(t, x, v, keys, "without "+quote(key))
		x.Delete(key)
		mustHold(t, x, v, keys, "twice without "+quote(key))
	}
	mustBe(t, x.Root(), trie.Nothing(), "Root in the end")
}

func TestDeleteOfNoKeyChangesNothing(t *testing.T) {
	v := of(twins[0], "a", "b", "c")
	x := filled(v)
	root := x.Root()
	for _, key := range append(texts(), twins[1], "A", "a ", trie.Path("a"), "va") {
		x.Delete(key)
		mustBe(t, x.Root(), root, "Root")
	}
	mustHold(t, x, v, []string{twins[1], "A"}, "after deletes")
}

func TestAnEmptyValueIsAValue(t *testing.T) {
	x := trie.New()
	x.Set("a", "")
	if value, ok := x.Get("a"); value != "" || !ok {
		t.Errorf("Get is %q, %t", value, ok)
	}
	if value, ok := x.Get("b"); value != "" || ok {
		t.Errorf("Get of another key is %q, %t", value, ok)
	}
	if x.Len() != 1 {
		t.Errorf("Len is %d", x.Len())
	}
	x.Delete("a")
	if value, ok := x.Get("a"); value != "" || ok || x.Len() != 0 {
		t.Errorf("Get of a deleted key is %q, %t; Len is %d", value, ok, x.Len())
	}
}

// TestManySteps goes a long way of sets and deletes, of which some do nothing.
func TestManySteps(t *testing.T) {
	keys := slices.Concat(twins, triplets, numbered(20), []string{"", "a", "\xff"})
	x, v, r := trie.New(), values{}, chance(1)
	for step := range 1500 {
		key := keys[r.IntN(len(keys))]
		if r.IntN(5) < 2+step%2 {
			value := strconv.Itoa(r.IntN(3))
			x.Set(key, value)
			v[key] = value
		} else {
			x.Delete(key)
			delete(v, key)
		}
		if x.Len() != len(v) {
			t.Fatalf("step %d: Len is %d, want %d", step, x.Len(), len(v))
		}
		mustBe(t, x.Root(), v.root(), "Root of step "+strconv.Itoa(step))
		mustGet(t, x, v, key, "step "+strconv.Itoa(step))
		if step%100 == 0 {
			mustHold(t, x, v, keys, "step "+strconv.Itoa(step))
		}
	}
}

func TestTheRootIsOfTheValuesAlone(t *testing.T) {
	keys := slices.Concat(twins, triplets, []string{"a", "b", "c", ""})
	v := of(keys...)
	root, r := v.root(), chance(2)
	for range 60 {
		x := trie.New()
		r.Shuffle(len(keys), func(i, j int) { keys[i], keys[j] = keys[j], keys[i] })
		for _, key := range keys {
			x.Set("other "+key, "x")
			x.Set(keys[0], "not yet")
			x.Set(key, v[key])
			x.Delete("other " + key)
		}
		x.Set(keys[0], v[keys[0]])
		mustBe(t, x.Root(), root, "Root of "+strings.Join(keys, " "))
		mustBe(t, x.Root(), root, "Root, asked again")
	}
	x := filled(v)
	x.Set("a", v["b"])
	x.Set("b", v["a"])
	if x.Root() == root {
		t.Error("values that changed their places have the same root")
	}
}

func TestACopyGoesItsOwnWay(t *testing.T) {
	v := of("a", "b", "c", twins[0], twins[1])
	x := filled(v)
	y := x.Copy()
	z := y.Copy()
	want := map[*trie.Trie]values{x: maps.Clone(v), y: maps.Clone(v), z: maps.Clone(v)}
	hold := func(what string) {
		t.Helper()
		for name, one := range map[string]*trie.Trie{"first": x, "copy": y, "copy of the copy": z} {
			mustHold(t, one, want[one], []string{"d", "e"}, what+": the "+name)
		}
	}
	hold("alike")
	for i, one := range []*trie.Trie{x, y, z} {
		value := strconv.Itoa(i)
		one.Set("a", value)
		want[one]["a"] = value
		hold("replaced " + value)
		one.Set("d", value)
		want[one]["d"] = value
		hold("set " + value)
		gone := []string{"b", "c", twins[0]}[i]
		one.Delete(gone)
		delete(want[one], gone)
		hold("deleted " + gone)
	}
	empty := trie.New()
	other := empty.Copy()
	other.Set("a", "x")
	mustHold(t, empty, values{}, []string{"a"}, "no values, beside a copy")
	mustHold(t, other, values{"a": "x"}, []string{"b"}, "a copy of no values")
	empty.Set("b", "y")
	mustHold(t, other, values{"a": "x"}, []string{"b"}, "a copy beside new values")
}

func TestTwoTriesDoNotTouch(t *testing.T) {
	x, y := trie.New(), trie.New()
	x.Set("a", "1")
	mustHold(t, y, values{}, []string{"a"}, "the second")
	y.Set("a", "2")
	y.Set("b", "3")
	mustHold(t, x, values{"a": "1"}, []string{"b"}, "the first")
	x.Delete("a")
	mustHold(t, y, values{"a": "2", "b": "3"}, []string{"c"}, "the second")
	mustHold(t, x, values{}, []string{"a"}, "the first")
}

// TestArgumentsAreNotKept hands in texts whose memory changes afterwards.
func TestArgumentsAreNotKept(t *testing.T) {
	key, value := []byte("key"), []byte("value")
	text := func(b []byte) string { return unsafe.String(&b[0], len(b)) }
	x := trie.New()
	x.Set(text(key), text(value))
	y := x.Copy()
	copy(value, "XXXXX")
	copy(key, "YYY")
	for what, one := range map[string]*trie.Trie{"the trie": x, "a copy": y} {
		mustHold(t, one, values{"key": "value"}, []string{"YYY"}, what)
	}
}

// R3

func TestProveWithOneValueOrNone(t *testing.T) {
	x := trie.New()
	for _, key := range texts() {
		if p := x.Prove(key); p.Leaf || p.Path != "" || p.Value != "" || len(p.Beside) != 0 {
			t.Errorf("without values: %s", show(p))
		}
	}
	x.Set("a", "va")
	for _, key := range append(texts(), "a") {
		if p := x.Prove(key); !p.Leaf || p.Path != trie.Path("a") || p.Value != "va" || len(p.Beside) != 0 {
			t.Errorf("with one value: %s", show(p))
		}
	}
}

// TestProveByHand has paths that begin with these bits: a 01001, b 11011,
// c 01011, d 10010, e 00111, f 11100, g 01110, h 01001, x 01010, y 11001,
// z 11000.
func TestProveByHand(t *testing.T) {
	leaf := func(key string) string { return trie.Leaf(trie.Path(key), "v"+key) }
	nothing := trie.Nothing()
	a, b, c, f, g := leaf("a"), leaf("b"), leaf("c"), leaf("f"), leaf("g")
	ac, bf := trie.Inner(a, c), trie.Inner(b, f)
	for _, w := range []struct {
		keys   string
		key    string
		end    string // the key of the leaf at which the search ends, if any
		beside []string
	}{
		{"a b", "a", "a", []string{b}},
		{"a b", "b", "b", []string{a}},
		{"a b", "c", "a", []string{b}},
		{"a b", "d", "b", []string{a}},
		{"a c", "a", "a", []string{nothing, nothing, nothing, c}},
		{"a c", "c", "c", []string{nothing, nothing, nothing, a}},
		{"a c", "h", "a", []string{nothing, nothing, nothing, c}},
		{"a c", "x", "c", []string{nothing, nothing, nothing, a}},
		{"a c", "b", "", []string{trie.Inner(nothing, trie.Inner(ac, nothing))}},
		{"a c", "e", "", []string{nothing, trie.Inner(ac, nothing)}},
		{"a c", "g", "", []string{nothing, nothing, ac}},
		{"b f", "b", "b", []string{nothing, nothing, f}},
		{"b f", "f", "f", []string{nothing, nothing, b}},
		{"b f", "y", "b", []string{nothing, nothing, f}},
		{"b f", "d", "", []string{nothing, bf}},
		{"b f", "a", "", []string{trie.Inner(nothing, bf)}},
		{"b f g", "f", "f", []string{g, nothing, b}},
		{"b f g", "z", "b", []string{g, nothing, f}},
		{"b f g", "d", "", []string{g, bf}},
		{"b f g", "e", "g", []string{trie.Inner(nothing, bf)}},
		{"b f g", "g", "g", []string{trie.Inner(nothing, bf)}},
	} {
		want := api.Proof{Beside: w.beside}
		if w.end != "" {
			want.Leaf, want.Path, want.Value = true, trie.Path(w.end), "v"+w.end
		}
		mustProve(t, filled(of(strings.Fields(w.keys)...)), w.key, want, w.keys)
	}
}

func TestProveAsksOnly(t *testing.T) {
	v := of(twins[0], "a", "b", "c")
	x := filled(v)
	for range 3 {
		for _, key := range append(texts(), twins...) {
			x.Prove(key)
			x.Get(key)
			x.Root()
		}
		mustHold(t, x, v, []string{twins[1], "d"}, "after questions")
	}
}

func TestWhatProveAnswersMayBeWrittenInto(t *testing.T) {
	v := of(twins[0], twins[1], "a", "b", "c")
	x := filled(v)
	y := x.Copy()
	for _, key := range []string{twins[0], twins[1], "a", "d", ""} {
		want := v.proof(key)
		first, second := x.Prove(key), x.Prove(key)
		for i := range first.Beside[:cap(first.Beside)] {
			first.Beside[:cap(first.Beside)][i] = "x"
		}
		first.Beside = append(first.Beside, "y", "z")
		first.Path, first.Value, first.Leaf = "p", "v", !first.Leaf
		if !equal(second, want) {
			t.Errorf("%s: another answer is %s", quote(key), show(second))
		}
		mustHold(t, x, v, []string{"d", ""}, "the trie")
		mustHold(t, y, v, []string{"d", ""}, "a copy")
	}
}

// TestProofsOutliveTheirTrie asks for proofs, and changes the trie then.
func TestProofsOutliveTheirTrie(t *testing.T) {
	v := of(twins[0], "a", "b", "c")
	keys := []string{twins[0], twins[1], "a", "d", ""}
	x := filled(v)
	root := x.Root()
	var proofs []api.Proof
	for _, key := range keys {
		proofs = append(proofs, x.Prove(key))
	}
	x.Set("a", "x")
	x.Set(twins[1], "x")
	x.Delete("b")
	for i, key := range keys {
		if !equal(proofs[i], v.proof(key)) {
			t.Errorf("the proof of %s changed to %s", quote(key), show(proofs[i]))
		}
		value, there := v[key]
		mustHas(t, root, key, value, proofs[i], there, "the old root")
		mustLacks(t, root, key, proofs[i], !there, "the old root")
		mustHas(t, x.Root(), key, value, proofs[i], false, "the new root")
		mustLacks(t, x.Root(), key, proofs[i], false, "the new root")
	}
}
