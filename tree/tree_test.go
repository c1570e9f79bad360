package tree_test

import (
	"crypto/sha256"
	"encoding/binary"
	"encoding/hex"
	"math"
	"slices"
	"strconv"
	"strings"
	"testing"
	"unsafe"

	"voussoir/sha"
	"voussoir/tree"
)

// The functions from here to refClimbed are a second way to the answers, by
// the library's means: they go from the root down, the program goes up to it.

func refInput(a, b string) string {
	in := []byte{5}
	for _, part := range []string{a, b} {
		in = binary.BigEndian.AppendUint32(in, uint32(len(part)))
		in = append(in, part...)
	}
	return string(in)
}

func refNode(a, b string) string {
	sum := sha256.Sum256([]byte(refInput(a, b)))
	return string(sum[:])
}

func halves(leaves []string) (left, right []string) {
	return leaves[:len(leaves)/2], leaves[len(leaves)/2:]
}

func refRoot(leaves []string) string {
	if len(leaves) == 1 {
		return leaves[0]
	}
	left, right := halves(leaves)
	return refNode(refRoot(left), refRoot(right))
}

func refPath(leaves []string, i int) []string {
	if len(leaves) == 1 {
		return nil
	}
	left, right := halves(leaves)
	if i < len(left) {
		return append(refPath(left, i), refRoot(right))
	}
	return append(refPath(right, i-len(left)), refRoot(left))
}

func refInputs(leaves []string) []string {
	var out []string
	for size := 2; size <= len(leaves); size *= 2 {
		for part := range slices.Chunk(leaves, size) {
			left, right := halves(part)
			out = append(out, refInput(refRoot(left), refRoot(right)))
		}
	}
	return out
}

// refPair is the last pair of a climb, which has at least one element.
func refPair(leaf string, i int, path []string) (left, right string) {
	end := len(path) - 1
	here, beside := refClimb(leaf, i, path[:end]), path[end]
	if i > 0 && i>>end&1 == 1 {
		return beside, here
	}
	return here, beside
}

func refClimb(leaf string, i int, path []string) string {
	if len(path) == 0 {
		return leaf
	}
	return refNode(refPair(leaf, i, path))
}

func refClimbed(leaf string, i int, path []string) []string {
	var out []string
	for n := range path {
		out = append(out, refInput(refPair(leaf, i, path[:n+1])))
	}
	return out
}

// run is a text of n bytes that repeats only after 256 of them, if step is odd.
func run(n, step int) string {
	out := make([]byte, n)
	for i := range out {
		out[i] = byte(i * step)
	}
	return string(out)
}

// sizes are those of all valid lists.
func sizes() []int { return []int{1, 2, 4, 8, 16, 32, 64, 128} }

// wrongSizes are those of lists that are not valid.
func wrongSizes() []int {
	out := []int{511, 512, 513, 1000, 1024, 4096, 65535, 65536, 65537, 65536 + 128, 1 << 20, 1<<20 + 1}
	for n := range 400 {
		if !slices.Contains(sizes(), n) {
			out = append(out, n)
		}
	}
	return out
}

// decimals are n different texts of one byte or more.
func decimals(n int) []string {
	out := make([]string, n)
	for i := range out {
		out[i] = strconv.Itoa(i)
	}
	return out
}

// hashes are n different texts of 32 bytes.
func hashes(n int) []string {
	out := make([]string, n)
	for i := range out {
		sum := sha256.Sum256([]byte(strconv.Itoa(i)))
		out[i] = string(sum[:])
	}
	return out
}

// lists are n leaves of several kinds.
func lists(n int) [][]string {
	mixed := make([]string, n)
	for i := range mixed {
		mixed[i] = run(i*i%150, i)
	}
	last := make([]string, n)
	last[n-1] = "x"
	return [][]string{decimals(n), hashes(n), make([]string, n), slices.Repeat([]string{"leaf"}, n), mixed, last}
}

// outside are indexes at and beyond the ends of a list of n leaves.
func outside(n int) []int {
	return []int{
		-1, -2, -n, -n - 1, -128, -1 << 32, math.MinInt32, math.MinInt + 1, math.MinInt,
		n, n + 1, 2 * n, 2*n - 1, 2*n + 1, n + 128, n + 256, n + 1<<16, math.MaxInt32, 1 << 32, 1<<32 + 1, n + 1<<32, math.MaxInt - 1, math.MaxInt,
	}
}

// short keeps a message readable.
func short(s string) string {
	if len(s) > 80 {
		return s[:40] + ".." + s[len(s)-40:]
	}
	return s
}

func mustBe(t *testing.T, got, want, what string) {
	t.Helper()
	if got != want {
		t.Errorf("%s: %x, want %x", what, short(got), short(want))
	}
}

func mustList(t *testing.T, got, want []string, what string) {
	t.Helper()
	if len(got) != len(want) {
		t.Errorf("%s: %d elements, want %d", what, len(got), len(want))
		return
	}
	for i := range got {
		mustBe(t, got[i], want[i], what+", element "+strconv.Itoa(i))
	}
}

func unhex(t *testing.T, s string) string {
	t.Helper()
	out, err := hex.DecodeString(s)
	if err != nil {
		t.Fatal(err)
	}
	return string(out)
}

// M1

func TestNodeWordForWord(t *testing.T) {
	for _, c := range []struct{ a, b, want string }{
		{"", "", "6c449f91c1adbf3945ad078f5f875c0c1f133f246c4588668faffbe23a3c195f"},
		{"a", "b", "1c7a41879be23f5c901213cfa7c6be2e629cfc94ff84c41fb0a3479b9355ac00"},
		{"b", "a", "39b44fa7a187ca2cfe755eaea8d829cd78b2784e604ba9616dc3f807cc17fc7b"},
		{"a", "a", "9ed195d26fb37c326692e0f63b205c3d914efb6e6a24e093a023dc7dff041545"},
		{"ab", "", "b603139a8612e475f60ad131700762791539fe62a6b928705fb720a03d4748a3"},
		{"", "ab", "ad4abb4c1097b65b4f8fb65a01e4a0e62a7d140ed273eea17303d8693b37f452"},
		{"\x00", "\xff", "2bcca8caece2bd4fd8961a135340abebd22ecfbc76c9623f3141809da0e6266a"},
		{run(64, 1)[:32], run(64, 1)[32:], "7a3c9acdec46a876bae05339d168d908632ec294f545e5ed16086fd240d5eca8"},
		{strings.Repeat("x", 1000000), strings.Repeat("y", 65536), "f2f294a7dd9200f4df99f3703300b526b72fbfe958c696a4b29f2cc31f1f145a"},
	} {
		for range 2 {
			mustBe(t, tree.Node(c.a, c.b), unhex(t, c.want), "Node of "+strconv.Quote(short(c.a))+" and "+strconv.Quote(short(c.b)))
		}
	}
}

func TestNodeOfManyPairs(t *testing.T) {
	texts := []string{"", "a", "b", "ab", "aa", "é", "\x00", "\x00\x00", "\x05", "\xff\xfe", "\x00\x00\x00\x01a", run(1<<17, 1), run(1<<16, 3)}
	for n := range 140 {
		texts = append(texts, run(n, 3)+"x")
	}
	seen := map[string]string{}
	for i, a := range texts {
		for j, b := range texts {
			name := strconv.Itoa(i) + " and " + strconv.Itoa(j)
			got := tree.Node(a, b)
			mustBe(t, got, refNode(a, b), name)
			mustBe(t, got, sha.Tag(5, []string{a, b}), name)
			if other, ok := seen[got]; ok || len(got) != 32 {
				t.Errorf("the Node of %s is %x, as that of %q is", name, got, other)
			}
			seen[got] = name
		}
	}
}

func TestRootWordForWord(t *testing.T) {
	for _, c := range []struct {
		n               int
		decimals, empty string
	}{
		{1, "30", ""},
		{2, "cdcf54a8aafba4b3be1c0c2787c152536be9e903688caa337909b6d98d232352", "6c449f91c1adbf3945ad078f5f875c0c1f133f246c4588668faffbe23a3c195f"},
		{4, "b80f69d366ebef9935041f9b1cf1e3addd68407701ab8e00e67b92cab56975b5", "c00014a6cf081459e4026e19fd758451db9f7e84855d9b61fbd8ffee5ac6e980"},
		{8, "8e7b28c41ffa2c7118e9a1e99c0ef7e616ceec9421f3ae16660789006b71be5a", "6cb01d076be6a97d0681183c1ee8f64a1c5bd516efa00db2feba9dc64aab912b"},
		{16, "ec9d93db08fbfa1e58e093e6f43628ed2a957766f65a2471cbc215d2d7eb7a36", "526d209d390591ccbcca4f8ea6bea514fb342c2f8b9f583452db30e7d29eed3d"},
		{32, "6b693142dec654573d5daa89315f9189ccffb820379a2056409d883ad18e7b1b", "503402c6da988670651fe87cc2c8255153f0dd92d8bad4961b6dafa761d238c8"},
		{64, "86676d5a96cf2e85a579e61eed31c4384dce8cb6557d94bbfdcb0d4241231a2f", "bcd29bb492f58d837f9340bd703f98bbf94e066fbda3854a4cc7a562058c4c7d"},
		{128, "c9ad3dc11a969477408c6e615eea799df8b2b50d048336f55e238e1bcca6b3f8", "5ebbbbac8af630e6228aa11d7efedf2aed7340bc7e54d9197d99d5c7f3d330a9"},
	} {
		for range 2 {
			mustBe(t, tree.Root(decimals(c.n)), unhex(t, c.decimals), strconv.Itoa(c.n)+" leaves")
			mustBe(t, tree.Root(make([]string, c.n)), unhex(t, c.empty), strconv.Itoa(c.n)+" empty leaves")
		}
	}
}

func TestTheExamples(t *testing.T) {
	l := []string{"a", "b", "c", "d"}
	ab, cd := tree.Node("a", "b"), tree.Node("c", "d")
	mustBe(t, tree.Root(l), tree.Node(ab, cd), "the root of a, b, c, d")
	mustBe(t, tree.Root(l), unhex(t, "c33da3d1807f64d664c6cbea1ab260613b6de56eab6575c088d06fbdf411813f"), "the root of a, b, c, d")
	mustList(t, tree.Path(l, 2), []string{"d", ab}, "the path of the third leaf")
	mustBe(t, tree.Root([]string{"leaf"}), "leaf", "the root of one leaf")
}

func TestRootOfOneLeafIsTheLeaf(t *testing.T) {
	for _, leaf := range []string{"", "a", "\x00", "é", "\xff\xfe", run(31, 1), run(32, 1), run(33, 1), run(1<<20, 1)} {
		mustBe(t, tree.Root([]string{leaf}), leaf, "one leaf")
	}
}

func TestRootOfValidLists(t *testing.T) {
	for _, n := range sizes() {
		for kind, leaves := range lists(n) {
			mustBe(t, tree.Root(leaves), refRoot(leaves), strconv.Itoa(n)+" leaves of kind "+strconv.Itoa(kind))
		}
	}
	long := []string{run(1<<20, 1), "", run(1<<20, 3), run(1<<16, 1)}
	mustBe(t, tree.Root(long), refRoot(long), "long leaves")
}

func TestAListThatIsNotValidHasNothing(t *testing.T) {
	for _, n := range wrongSizes() {
		for _, leaves := range [][]string{make([]string, n), decimals(n)} {
			for range 2 {
				if got := tree.Root(leaves); got != "" {
					t.Errorf("the root of %d leaves is %x", n, got)
				}
				if got := tree.Inputs(leaves); len(got) != 0 {
					t.Errorf("%d leaves have %d inputs", n, len(got))
				}
			}
			for _, i := range append(outside(n), 0, 1, 2, n/2, n-1) {
				if got := tree.Path(leaves, i); len(got) != 0 {
					t.Errorf("the leaf %d of %d has the path %x", i, n, got)
				}
			}
		}
	}
	if tree.Root(nil) != "" || len(tree.Path(nil, 0)) != 0 || len(tree.Inputs(nil)) != 0 {
		t.Error("no list has something")
	}
}

func TestPathWordForWord(t *testing.T) {
	l := []string{"a", "b", "c", "d", "e", "f", "g", "h"}
	ab, cd, ef, gh := refNode("a", "b"), refNode("c", "d"), refNode("e", "f"), refNode("g", "h")
	left, right := refNode(ab, cd), refNode(ef, gh)
	for i, want := range [][]string{
		{"b", cd, right}, {"a", cd, right}, {"d", ab, right}, {"c", ab, right},
		{"f", gh, left}, {"e", gh, left}, {"h", ef, left}, {"g", ef, left},
	} {
		mustList(t, tree.Path(l, i), want, "leaf "+strconv.Itoa(i)+" of 8")
	}
	for i, want := range [][]string{{"b", cd}, {"a", cd}, {"d", ab}, {"c", ab}} {
		mustList(t, tree.Path(l[:4], i), want, "leaf "+strconv.Itoa(i)+" of 4")
	}
	mustList(t, tree.Path(l[:2], 0), []string{"b"}, "leaf 0 of 2")
	mustList(t, tree.Path(l[:2], 1), []string{"a"}, "leaf 1 of 2")
	mustList(t, tree.Path(l[:1], 0), nil, "leaf 0 of 1")
}

func TestPathOfEachLeaf(t *testing.T) {
	for height, n := range sizes() {
		for kind, leaves := range lists(n) {
			for i := range n {
				name := "leaf " + strconv.Itoa(i) + " of " + strconv.Itoa(n) + ", kind " + strconv.Itoa(kind)
				got := tree.Path(leaves, i)
				mustList(t, got, refPath(leaves, i), name)
				if len(got) != height {
					t.Errorf("%s: a path of %d", name, len(got))
				}
			}
		}
	}
}

// Of leaves that differ, each path is another one.
func TestPathsOfDifferentLeavesDiffer(t *testing.T) {
	for _, n := range sizes()[1:] {
		seen := map[string]int{}
		for i := range n {
			path := strings.Join(tree.Path(hashes(n), i), "")
			if other, ok := seen[path]; ok {
				t.Errorf("the leaves %d and %d of %d have one path", i, other, n)
			}
			seen[path] = i
		}
	}
}

func TestPathOfNoLeafIsNothing(t *testing.T) {
	for _, n := range sizes() {
		for _, leaves := range lists(n) {
			for _, i := range outside(n) {
				for range 2 {
					if got := tree.Path(leaves, i); len(got) != 0 {
						t.Errorf("the leaf %d of %d has the path %x", i, n, got)
					}
				}
			}
		}
	}
}

// M2

func TestClimbWordForWord(t *testing.T) {
	for _, c := range []struct {
		i    int
		want string
	}{
		{0, "7c030587152ae194b0376e32a3d97e64fb80bff3ef2ce87118e82e2df1d0fd82"},
		{1, "269351e2e4a02be13af4f0e07c0770ef989c5a5874781144c524c76c60a6f9bd"},
		{2, "9b71e27cc62b3b36dfda3d1cfb43c7e6e1f9ae936c4b0141de1f1ee2ace4ffaa"},
		{5, "5eed19b0d0126dce6cebe9952dd154183ee78efc2f9e07941c73e012cf80c481"},
		{6, "1c3be085262ccf96d0a83908c06a6cd187fd6740f4b627552be702757f154cdc"},
		{7, "1dd542fde41aaaf42226e2e0c330b9a75ff9915a74a695567f9e7f85fe416f36"},
		{-1, "7c030587152ae194b0376e32a3d97e64fb80bff3ef2ce87118e82e2df1d0fd82"},
		{math.MinInt, "7c030587152ae194b0376e32a3d97e64fb80bff3ef2ce87118e82e2df1d0fd82"},
		{math.MaxInt, "1dd542fde41aaaf42226e2e0c330b9a75ff9915a74a695567f9e7f85fe416f36"},
	} {
		for range 2 {
			mustBe(t, tree.Climb("x", c.i, []string{"p", "q", "r"}), unhex(t, c.want), "climb by "+strconv.Itoa(c.i))
		}
	}
	mustBe(t, tree.Climb("x", 5, decimals(100)), unhex(t, "3d5ab3c6ecd10f7e32552183b94fc8bd495ae35aea0031f79286d4b80b029128"), "a long path by 5")
	mustBe(t, tree.Climb("x", math.MaxInt, decimals(100)), unhex(t, "228bc803a1af3482d083e61739d953c0691f44c4f10a352e7ab52a6c2462929f"), "a long path by the greatest index")
}

func TestClimbOverOneElement(t *testing.T) {
	for _, leaf := range []string{"", "x", run(32, 1), run(1<<17, 1)} {
		for _, p := range []string{"", "y", leaf, run(32, 3), run(1<<17, 3)} {
			for _, i := range []int{0, 2, 4, 6, 126, 128, 1 << 32, 1 << 62, math.MaxInt - 1, -1, -2, -3, math.MinInt, math.MinInt + 1} {
				mustBe(t, tree.Climb(leaf, i, []string{p}), tree.Node(leaf, p), "climb by "+strconv.Itoa(i))
			}
			for _, i := range []int{1, 3, 5, 7, 127, 129, 1<<32 + 1, math.MaxInt} {
				mustBe(t, tree.Climb(leaf, i, []string{p}), tree.Node(p, leaf), "climb by "+strconv.Itoa(i))
			}
		}
	}
}

func TestClimbWithoutAPathStays(t *testing.T) {
	for _, leaf := range []string{"", "x", "é", "\xff", run(32, 1), run(1<<20, 1)} {
		for _, i := range append(outside(8), 0, 1, 7) {
			for _, path := range [][]string{nil, {}} {
				mustBe(t, tree.Climb(leaf, i, path), leaf, "climb by "+strconv.Itoa(i))
				if got := tree.Climbed(leaf, i, path); len(got) != 0 {
					t.Errorf("no path has the inputs %x", got)
				}
			}
		}
	}
}

// climbs are arguments of all sorts for Climb and Climbed.
func climbs(visit func(leaf string, i int, path []string)) {
	indexes := append(outside(8), 1<<62, 1<<62-1, 0x5555555555555555, 0x2aaaaaaaaaaaaaaa)
	for i := range 40 {
		indexes = append(indexes, i)
	}
	for _, n := range []int{1, 2, 3, 4, 5, 7, 8, 9, 31, 62, 63, 64, 65, 100} {
		for _, path := range lists(n) {
			for _, i := range indexes {
				visit("leaf", i, path)
			}
		}
	}
	for _, leaf := range []string{"", "\x00", run(31, 1), run(32, 1), run(1000, 1)} {
		for i := range 300 {
			visit(leaf, i, decimals(7))
		}
	}
}

func TestClimbsOfAllSorts(t *testing.T) {
	climbs(func(leaf string, i int, path []string) {
		mustBe(t, tree.Climb(leaf, i, path), refClimb(leaf, i, path), "climb by "+strconv.Itoa(i)+" over "+strconv.Itoa(len(path)))
	})
}

// Each element is taken for itself: a path can be climbed in parts.
func TestClimbingInPartsIsClimbingAllTheWay(t *testing.T) {
	path := decimals(70)
	for _, i := range []int{0, 1, 5, 127, 128, 1<<40 + 77, math.MaxInt, -7} {
		whole := tree.Climb("leaf", i, path)
		for at := range path {
			here := tree.Climb("leaf", i, path[:at])
			mustBe(t, tree.Climb(here, max(i, 0)>>at, path[at:]), whole, "in two parts at "+strconv.Itoa(at))
		}
	}
}

func TestClimbOverAVeryLongPath(t *testing.T) {
	path, want := decimals(100000), "leaf"
	for at, p := range path {
		if at < 63 {
			want = refNode(p, want)
		} else {
			want = refNode(want, p)
		}
	}
	mustBe(t, tree.Climb("leaf", math.MaxInt, path), want, "a very long path")
	if got := tree.Climbed("leaf", math.MaxInt, path); len(got) != len(path) {
		t.Errorf("a very long path has %d inputs", len(got))
	}
}

func TestInputsWordForWord(t *testing.T) {
	leaves := []string{"a", "b", "c", "d"}
	want := []string{
		unhex(t, "0500000001610000000162"),
		unhex(t, "0500000001630000000164"),
		unhex(t, "0500000020"+"1c7a41879be23f5c901213cfa7c6be2e629cfc94ff84c41fb0a3479b9355ac00"+"00000020"+"d0c9b940df40cc7d237cff4e545ecfe1fa3b6679d7b37fbf1db0af93c2e181bd"),
	}
	for range 2 {
		mustList(t, tree.Inputs(leaves), want, "the inputs of a, b, c, d")
		mustList(t, tree.Climbed("c", 2, []string{"d", tree.Node("a", "b")}), want[1:], "those of the climb of c")
		mustList(t, tree.Climbed("b", 1, []string{"a", tree.Node("c", "d")}), []string{want[0], want[2]}, "those of the climb of b")
	}
}

// The inputs of each level stand together, in the order of the level.
func TestInputsAreThoseOfTheNodesInOrder(t *testing.T) {
	for _, n := range sizes() {
		for kind, leaves := range lists(n) {
			name := strconv.Itoa(n) + " leaves of kind " + strconv.Itoa(kind)
			inputs := tree.Inputs(leaves)
			mustList(t, inputs, refInputs(leaves), name)
			if len(inputs) != n-1 {
				t.Fatalf("%s: %d inputs", name, len(inputs))
			}
			level, at := leaves, 0
			for len(level) > 1 {
				var next []string
				for pair := range slices.Chunk(level, 2) {
					mustBe(t, inputs[at], sha.Input(5, pair), name)
					mustBe(t, sha.Sum(inputs[at]), tree.Node(pair[0], pair[1]), name)
					next = append(next, sha.Sum(inputs[at]))
					at++
				}
				level = next
			}
			mustBe(t, level[0], tree.Root(leaves), name)
		}
	}
}

func TestInputsOfOneLeafAreNone(t *testing.T) {
	for _, leaf := range []string{"", "a", run(32, 1)} {
		if got := tree.Inputs([]string{leaf}); len(got) != 0 {
			t.Errorf("one leaf has the inputs %x", got)
		}
	}
}

func TestClimbedOfAllSorts(t *testing.T) {
	climbs(func(leaf string, i int, path []string) {
		name := "climb by " + strconv.Itoa(i) + " over " + strconv.Itoa(len(path))
		got := tree.Climbed(leaf, i, path)
		mustList(t, got, refClimbed(leaf, i, path), name)
		if len(got) != len(path) {
			t.Fatalf("%s: %d inputs", name, len(got))
		}
		mustBe(t, sha.Sum(got[len(got)-1]), tree.Climb(leaf, i, path), name)
	})
}

func TestClimbedAreTheInputsOfEachStep(t *testing.T) {
	path := hashes(9)
	for i := range 600 {
		here, at := "leaf", i
		for n, input := range tree.Climbed("leaf", i, path) {
			pair := []string{here, path[n]}
			if at%2 == 1 {
				slices.Reverse(pair)
			}
			mustBe(t, input, sha.Input(5, pair), "step "+strconv.Itoa(n)+" by "+strconv.Itoa(i))
			here, at = tree.Node(pair[0], pair[1]), at/2
			mustBe(t, sha.Sum(input), here, "step "+strconv.Itoa(n)+" by "+strconv.Itoa(i))
		}
		mustBe(t, here, tree.Climb("leaf", i, path), "climb by "+strconv.Itoa(i))
	}
}

// M3

func TestClimbOfEachLeafAndItsPathIsTheRoot(t *testing.T) {
	for _, n := range sizes() {
		for kind, leaves := range lists(n) {
			root, inputs := tree.Root(leaves), tree.Inputs(leaves)
			for i, leaf := range leaves {
				name := "leaf " + strconv.Itoa(i) + " of " + strconv.Itoa(n) + ", kind " + strconv.Itoa(kind)
				path := tree.Path(leaves, i)
				mustBe(t, tree.Climb(leaf, i, path), root, name)
				for _, input := range tree.Climbed(leaf, i, path) {
					if !slices.Contains(inputs, input) {
						t.Errorf("%s: the climb hashes %x, the tree does not", name, input)
					}
				}
			}
		}
	}
}

// Only the last digits of an index say where a path goes; the other ones lie
// above the root.
func TestClimbByAnIndexBeyondTheTree(t *testing.T) {
	for _, n := range sizes() {
		leaves := hashes(n)
		root := tree.Root(leaves)
		for i, leaf := range leaves {
			path := tree.Path(leaves, i)
			for _, more := range []int{n, 2 * n, 128 * n, n << 32} {
				mustBe(t, tree.Climb(leaf, i+more, path), root, "leaf "+strconv.Itoa(i)+" and "+strconv.Itoa(more))
			}
			for _, other := range []int{-1, math.MinInt} {
				if got := tree.Climb(leaf, other, path) == root; got != (i == 0) {
					t.Errorf("the leaf %d of %d by %d: %t", i, n, other, got)
				}
			}
		}
	}
}

func TestClimbByAnotherIndexGoesElsewhere(t *testing.T) {
	for _, n := range sizes() {
		leaves := hashes(n)
		root := tree.Root(leaves)
		for i, leaf := range leaves {
			path := tree.Path(leaves, i)
			for j := range n {
				if got := tree.Climb(leaf, j, path) == root; got != (i == j) {
					t.Errorf("the leaf %d of %d by %d: %t", i, n, j, got)
				}
			}
		}
	}
}

func TestAnotherLeafClimbsElsewhere(t *testing.T) {
	for _, n := range sizes() {
		leaves := hashes(n)
		root := tree.Root(leaves)
		for i := range leaves {
			path := tree.Path(leaves, i)
			for j, other := range append(leaves, "", run(32, 0), run(32, 255), root) {
				if n > 1 && (tree.Climb(other, i, path) == root) != (i == j) {
					t.Errorf("the leaf %d of %d in the place of %d", j, n, i)
				}
			}
		}
	}
}

// changed are a text with a single byte changed, at all places and in some ways.
func changed(s string) []string {
	var out []string
	for i := range s {
		for _, change := range []byte{1, 128, 255} {
			out = append(out, s[:i]+string([]byte{s[i] ^ change})+s[i+1:])
		}
	}
	return out
}

func TestALeafWithAByteChangedClimbsElsewhere(t *testing.T) {
	for _, n := range sizes() {
		leaves := hashes(n)
		root := tree.Root(leaves)
		for _, i := range []int{0, n / 2, n - 1} {
			path := tree.Path(leaves, i)
			for _, leaf := range changed(leaves[i]) {
				if tree.Climb(leaf, i, path) == root {
					t.Errorf("a changed leaf %d of %d climbs to the root", i, n)
				}
			}
		}
	}
}

func TestAPathWithAnElementChangedClimbsElsewhere(t *testing.T) {
	for _, n := range sizes() {
		leaves := hashes(n)
		root := tree.Root(leaves)
		for i, leaf := range leaves {
			path := tree.Path(leaves, i)
			for at, p := range path {
				for _, other := range append(changed(p)[:6], "", p[1:], p+"\x00", leaf, root) {
					wrong := slices.Clone(path)
					wrong[at] = other
					if tree.Climb(leaf, i, wrong) == root {
						t.Errorf("the leaf %d of %d, changed beside at %d, climbs to the root", i, n, at)
					}
				}
			}
		}
	}
}

func TestAPathOfAnotherLengthOrOrderClimbsElsewhere(t *testing.T) {
	for _, n := range sizes() {
		leaves := hashes(n)
		root := tree.Root(leaves)
		for i, leaf := range leaves {
			path := tree.Path(leaves, i)
			wrong := [][]string{append(slices.Clone(path), ""), append([]string{leaf}, path...)}
			for at := range path {
				wrong = append(wrong, slices.Delete(slices.Clone(path), at, at+1), path[:at])
			}
			for at := 1; at < len(path); at++ {
				swapped := slices.Clone(path)
				swapped[at-1], swapped[at] = swapped[at], swapped[at-1]
				wrong = append(wrong, swapped)
			}
			for _, w := range wrong {
				if tree.Climb(leaf, i, w) == root {
					t.Errorf("the leaf %d of %d climbs to the root over %x", i, n, w)
				}
			}
		}
	}
}

// One leaf changed changes the root and its own way up, and nothing else.
func TestAListWithALeafChangedHasAnotherRoot(t *testing.T) {
	for _, n := range sizes() {
		leaves := hashes(n)
		root, inputs := tree.Root(leaves), tree.Inputs(leaves)
		for i := range leaves {
			other := slices.Clone(leaves)
			other[i] = run(32, i+1)
			if tree.Root(other) == root {
				t.Errorf("%d leaves, of which %d is another, have the same root", n, i)
			}
			mustList(t, tree.Path(other, i), tree.Path(leaves, i), "the path beside the change")
			mustBe(t, tree.Climb(other[i], i, tree.Path(leaves, i)), tree.Root(other), "the changed leaf")
			changes, height := 0, len(tree.Path(leaves, i))
			for at, input := range tree.Inputs(other) {
				if input != inputs[at] {
					changes++
				}
			}
			if changes != height {
				t.Errorf("%d leaves, of which %d is another, have %d other inputs", n, i, changes)
			}
		}
	}
}

func TestListsOfOneLengthHaveDifferentRoots(t *testing.T) {
	for _, n := range sizes() {
		lists := map[string]string{}
		leaves := hashes(2 * n)
		for at := range min(n, 10) {
			part := slices.Clone(leaves[at : at+n])
			for i := range part {
				slices.Reverse(part[i:])
				root, list := tree.Root(part), strings.Join(part, "")
				if other, ok := lists[root]; ok && other != list {
					t.Fatalf("two lists of %d leaves have the root %x", n, root)
				}
				lists[root] = list
			}
		}
	}
}

// The promise is about lists of one length, and paths as long as the tree is
// high: the levels of a tree have its root, too.
func TestALevelHasTheRootOfItsTree(t *testing.T) {
	leaves := hashes(8)
	level := []string{refRoot(leaves[:2]), refRoot(leaves[2:4]), refRoot(leaves[4:6]), refRoot(leaves[6:])}
	mustBe(t, tree.Root(level), tree.Root(leaves), "the second level")
	mustBe(t, tree.Climb(level[2], 2, tree.Path(leaves, 5)[1:]), tree.Root(leaves), "a climb from the second level")
}

// R1 to R4

// roomy is a list with room behind its length, all of which is watched.
func roomy(list []string) []string {
	out := make([]string, len(list), len(list)+5)
	copy(out, list)
	for i := len(list); i < cap(out); i++ {
		out[:cap(out)][i] = "room " + strconv.Itoa(i)
	}
	return out
}

func TestNoArgumentIsChanged(t *testing.T) {
	for _, n := range append(sizes(), 0, 3, 129) {
		leaves := roomy(hashes(n))
		before := slices.Clone(leaves[:cap(leaves)])
		tree.Root(leaves)
		tree.Inputs(leaves)
		for i := -1; i <= n; i++ {
			tree.Path(leaves, i)
			tree.Climb("leaf", i, leaves)
			tree.Climbed("leaf", i, leaves)
		}
		mustList(t, leaves[:cap(leaves)], before, strconv.Itoa(n)+" leaves afterwards")
	}
}

// spoil writes over all of a list, its room included, and goes on behind it.
func spoil(list []string) {
	list = list[:cap(list)]
	for i := range list {
		list[i] = "spoilt"
	}
	_ = append(list, "spoilt")
}

func TestNoListIsGivenTwice(t *testing.T) {
	for _, n := range sizes() {
		leaves, path := roomy(hashes(n)), roomy(decimals(7))
		for i := range n {
			calls := []func() []string{
				func() []string { return tree.Path(leaves, i) },
				func() []string { return tree.Inputs(leaves) },
				func() []string { return tree.Climbed("leaf", i, path) },
			}
			for at, call := range calls {
				kept := call()
				want := slices.Clone(kept)
				spoil(call())
				mustList(t, kept, want, "the answer ahead of call "+strconv.Itoa(at))
				mustList(t, call(), want, "the answer behind call "+strconv.Itoa(at))
			}
		}
		mustList(t, leaves, hashes(n), "the leaves")
		mustList(t, path, decimals(7), "the path")
	}
}

func TestNoListIsKept(t *testing.T) {
	leaves, path := hashes(8), decimals(3)
	route, inputs, climbed := tree.Path(leaves, 5), tree.Inputs(leaves), tree.Climbed("leaf", 5, path)
	spoil(leaves)
	spoil(path)
	mustList(t, route, refPath(hashes(8), 5), "the path")
	mustList(t, inputs, refInputs(hashes(8)), "the inputs")
	mustList(t, climbed, refClimbed("leaf", 5, decimals(3)), "the inputs of the climb")
	all := slices.Repeat([]string{"spoilt"}, 8)
	mustBe(t, tree.Root(leaves), refRoot(all), "the root of the leaves as they are now")
	mustList(t, tree.Path(leaves, 5), refPath(all, 5), "the path of the leaves as they are now")
}

func mustNotShare(t *testing.T, what string, results, arguments []string) {
	t.Helper()
	for _, r := range results {
		for _, a := range arguments {
			if unsafe.StringData(r) == unsafe.StringData(a) {
				t.Errorf("%s shares memory with an argument", what)
			}
		}
	}
}

func TestNoTextSharesMemoryWithAnArgument(t *testing.T) {
	for _, n := range sizes() {
		leaves := hashes(n)
		mustNotShare(t, "Root", []string{tree.Root(leaves)}, leaves)
		mustNotShare(t, "Inputs", tree.Inputs(leaves), leaves)
		for i := range n {
			mustNotShare(t, "Path", tree.Path(leaves, i), leaves)
		}
	}
	path := hashes(5)
	for n := range path {
		mustNotShare(t, "Climb", []string{tree.Climb(path[4], n, path[:n])}, path)
		mustNotShare(t, "Climbed", tree.Climbed(path[4], n, path[:n]), path)
	}
}

// No call may leave something behind that another one meets: the answers are
// the same in any order, and from several goroutines at once over one list.
func TestCallsAreIndependent(t *testing.T) {
	leaves := hashes(128)
	ask := func(i int) []string {
		part := leaves[:sizes()[i%8]]
		at := i % len(part)
		path := tree.Path(part, at)
		out := []string{tree.Root(part), tree.Climb(part[at], at, path), tree.Node(part[at], "x")}
		return slices.Concat(out, path, tree.Inputs(part), tree.Climbed(part[at], at, path))
	}
	var want [][]string
	for i := range 40 {
		want = append(want, ask(i))
	}
	for i := 39; i >= 0; i-- {
		mustList(t, ask(i), want[i], "the answers to "+strconv.Itoa(i))
	}
	done := make(chan int)
	for range 8 {
		go func() {
			wrong := 0
			for i := range want {
				if !slices.Equal(ask(i), want[i]) {
					wrong++
				}
			}
			done <- wrong
		}()
	}
	for range 8 {
		if wrong := <-done; wrong > 0 {
			t.Errorf("%d answers were others in a goroutine", wrong)
		}
	}
}
