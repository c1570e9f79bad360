package signer_test

import (
	"crypto/sha256"
	"encoding/binary"
	"encoding/hex"
	"math"
	"slices"
	"strconv"
	"strings"
	"testing"
	"unsafe"

	"voussoir/api"
	"voussoir/codec"
	"voussoir/signer"
	"voussoir/tree"
	"voussoir/wots"
)

// The functions from here to refVerify are a second way to the answers, by the
// library's means.

func refTag(domain byte, parts ...string) string {
	in := []byte{domain}
	for _, part := range parts {
		in = binary.BigEndian.AppendUint32(in, uint32(len(part)))
		in = append(in, part...)
	}
	sum := sha256.Sum256(in)
	return string(sum[:])
}

func refNum(n uint64) string {
	return string(binary.BigEndian.AppendUint64(nil, n))
}

func refText(s string) string {
	return string(binary.BigEndian.AppendUint32(nil, uint32(len(s)))) + s
}

func refDigits(msg string) []int {
	var out []int
	sum := 0
	for _, c := range hex.EncodeToString([]byte(refTag(1, msg)[:4])) {
		d := strings.IndexRune("0123456789abcdef", c)
		out = append(out, d)
		sum += 15 - d
	}
	return append(out, sum/16, sum%16)
}

func refWalk(chain, from, to int, value string) string {
	for at := from; at < to; at++ {
		value = refTag(2, refNum(uint64(chain)), refNum(uint64(at)), value)[:16]
	}
	return value
}

func refSecret(seed string, leaf, chain int) string {
	return refTag(3, seed, refNum(uint64(leaf)), refNum(uint64(chain)))[:16]
}

func refLeaf(seed string, leaf int) string {
	var parts []string
	for chain := range 10 {
		parts = append(parts, refWalk(chain, 0, 15, refSecret(seed, leaf, chain)))
	}
	return refTag(4, parts...)
}

func refOneTime(seed string, leaf int, msg string) string {
	out := ""
	for chain, d := range refDigits(msg) {
		out += refWalk(chain, 0, d, refSecret(seed, leaf, chain))
	}
	return out
}

func refFrom(oneTime, msg string) string {
	var parts []string
	for chain, d := range refDigits(msg) {
		parts = append(parts, refWalk(chain, d, 15, oneTime[16*chain:16*chain+16]))
	}
	return refTag(4, parts...)
}

func refRoot(leaves []string) string {
	if len(leaves) == 1 {
		return leaves[0]
	}
	half := len(leaves) / 2
	return refTag(5, refRoot(leaves[:half]), refRoot(leaves[half:]))
}

func refPath(leaves []string, i int) []string {
	if len(leaves) == 1 {
		return nil
	}
	half := len(leaves) / 2
	if i < half {
		return append(refPath(leaves[:half], i), refRoot(leaves[half:]))
	}
	return append(refPath(leaves[half:], i-half), refRoot(leaves[:half]))
}

func refClimb(leaf string, i uint64, path []string) string {
	for level, p := range path {
		if i>>level&1 == 0 {
			leaf = refTag(5, leaf, p)
		} else {
			leaf = refTag(5, p, leaf)
		}
	}
	return leaf
}

func refLeaves(seed string, height int) []string {
	var out []string
	for leaf := range 1 << height {
		out = append(out, refLeaf(seed, leaf))
	}
	return out
}

func refPublic(seed string, height int) string {
	return refNum(uint64(height)) + refRoot(refLeaves(seed, height))
}

// layOut is a signature of these parts.
func layOut(leaf uint64, oneTime string, path ...string) string {
	out := refNum(leaf) + refText(oneTime)
	for _, p := range path {
		out += refText(p)
	}
	return out
}

func refSign(seed string, height, leaf int, msg string) string {
	return layOut(uint64(leaf), refOneTime(seed, leaf, msg), refPath(refLeaves(seed, height), leaf)...)
}

// refVerify takes a signature for a text with fixed places: of all values but
// the number of the leaf, the chapter leaves neither size nor place open.
func refVerify(public, msg, sig string) bool {
	if len(public) != 40 || public[:7] != "\x00\x00\x00\x00\x00\x00\x00" || public[7] > 7 {
		return false
	}
	height := int(public[7])
	if len(sig) != 172+36*height || sig[8:12] != "\x00\x00\x00\xa0" {
		return false
	}
	var path []string
	for part := range slices.Chunk([]byte(sig[172:]), 36) {
		if string(part[:4]) != "\x00\x00\x00\x20" {
			return false
		}
		path = append(path, string(part[4:]))
	}
	leaf := binary.BigEndian.Uint64([]byte(sig))
	return leaf>>height == 0 && refClimb(refFrom(sig[12:172], msg), leaf, path) == public[8:]
}

// run is a text of n bytes that repeats only after 256 of them, if step is odd.
func run(n, step int) string {
	out := make([]byte, n)
	for i := range out {
		out[i] = byte(i * step)
	}
	return string(out)
}

func seeds() []string {
	return []string{"", "s", "t", "seed", "see", "\x00", "\xff", "é", run(32, 5), run(64, 1), run(1000, 3)}
}

func messages() []string {
	return []string{"", "m", "n", "mm", "\x00", "\xff\xfe", "é", run(32, 1), run(64, 3), run(65536, 7), strings.Repeat("x", 1000000), "3982922", "82088"}
}

// spents are none, some and all of the leaves of a tree of that height.
func spents(height int) []int {
	out := []int{0}
	for _, n := range []int{1, 2, 3, 1 << height / 2, 1<<height - 1, 1 << height} {
		if n > out[len(out)-1] && n <= 1<<height {
			out = append(out, n)
		}
	}
	return out
}

// marks are the first leaves and the last ones of a tree of that height.
func marks(height int) []int {
	var out []int
	for leaf := range 1 << height {
		if leaf < 3 || leaf == 1<<height/2 || leaf > 1<<height-3 {
			out = append(out, leaf)
		}
	}
	return out
}

func name(parts ...any) string {
	var out []string
	for _, part := range parts {
		switch x := part.(type) {
		case int:
			out = append(out, strconv.Itoa(x))
		case string:
			out = append(out, strconv.Quote(short(x)))
		}
	}
	return strings.Join(out, " ")
}

// short keeps a message readable.
func short(s string) string {
	if len(s) > 80 {
		return s[:40] + ".." + s[len(s)-40:]
	}
	return s
}

func mustBe(t *testing.T, got, want, what string) {
	t.Helper()
	if got != want {
		t.Errorf("%s: %x, want %x", what, short(got), short(want))
	}
}

func unhex(t *testing.T, s string) string {
	t.Helper()
	out, err := hex.DecodeString(s)
	if err != nil {
		t.Fatal(err)
	}
	return string(out)
}

func mustNew(t *testing.T, seed string, height, spent int) *signer.Signer {
	t.Helper()
	s, err := signer.New(seed, height, spent)
	if s == nil || err != api.OK {
		t.Fatalf("New of %s: a signer is %t, error %d", name(seed, height, spent), s != nil, err)
	}
	return s
}

func mustSign(t *testing.T, s *signer.Signer, msg string) string {
	t.Helper()
	sig, err := s.Sign(msg)
	if err != api.OK || sig == "" {
		t.Fatalf("Sign with %d leaves spent: %x, error %d", s.Spent(), sig, err)
	}
	return sig
}

func mustBeSpent(t *testing.T, s *signer.Signer, count int) {
	t.Helper()
	if got := s.Spent(); got != count {
		t.Errorf("%d leaves are spent, want %d", got, count)
	}
}

func mustHaveNoLeaf(t *testing.T, s *signer.Signer, msg string) {
	t.Helper()
	if sig, err := s.Sign(msg); sig != "" || err != api.ErrSignerSpent {
		t.Errorf("Sign with all leaves spent: %x, error %d", sig, err)
	}
}

// mustVerify holds Verify against what the case wants and what the second way
// tells.
func mustVerify(t *testing.T, public, msg, sig string, want bool, what string) {
	t.Helper()
	if ref := refVerify(public, msg, sig); ref != want {
		t.Errorf("%s: the second way tells %t", what, ref)
	}
	for range 2 {
		if got := signer.Verify(public, msg, sig); got != want {
			t.Errorf("%s: Verify tells %t", what, got)
		}
	}
}

// G1

func TestPublicWordForWord(t *testing.T) {
	for height, c := range []struct{ s, empty string }{
		{"000000000000000004edad9ecc1125f47a78b6adade665e55f6819beaea2958c08a6ef8000f895e3", "000000000000000030c3fb2573cb1a634edeb1fa7ce0989b84dd76a087d6aed212090be13c128db7"},
		{"00000000000000015f3aaa003375a7c4fcdcf6ab5a5b402c7b2678fe741b874dcf8ac78d022fcc97", "0000000000000001b66febca14c20879d72976565eb74fe799d5948c175a06ac0e667b11631c35a4"},
		{"00000000000000020729e05a92146a88c270ac0da807b000601cb2bc15b775503e2ef02c0d4ee923", "00000000000000022c82f720000b6affedb6e84d03fc4006f44235ccbebada3ede04230955b5b275"},
		{"000000000000000383b3e0eff033bca42f35d640faeb9963048e545f0dc666e58e9609dcf0fdfaf8", "0000000000000003a136fcd18a6aa35478799185f04498b1c906020cabb6666e2e366dd69e5372a5"},
		{"0000000000000004b099c40a29e852d86126016bf8e1e656626a9d1a4ecae60f262e4576910883fc", "00000000000000042975fd2d48144a64764559ba718dc672b108703d328bc31135fa26a8c8b4dac2"},
		{"00000000000000055a96b1cfdd1174fb5e169769ba0fe5d4c984a2d4678a38a0a887615d0c4e87f2", "0000000000000005f3405ec48221271c0516e50007df374c034255e598981c013df4217449f61e73"},
		{"0000000000000006897163a575279d89fe7f0fad461bee376ebd43d89017826f37890ed5d121d1a8", "0000000000000006acb298220f5a2648bd3d7b12e265db40ae8ecad81103ffa50a78e1577c2fc8f0"},
		{"000000000000000760b3ee99355a8b5fccf2489d8704e0f548005d52e2d1c704c15ddbfb0f5b8291", "00000000000000079bf2d2b40e6eb1703f896c282b0f8eb4801a28f38ec513813531229a1605e363"},
	} {
		mustBe(t, mustNew(t, "s", height, 0).Public(), unhex(t, c.s), name("s", height))
		mustBe(t, mustNew(t, "", height, 0).Public(), unhex(t, c.empty), name("", height))
	}
	mustBe(t, mustNew(t, run(1000, 1), 3, 0).Public(), unhex(t, "0000000000000003b1d0d015c2ce976f075620408dfaf217feddb53c41741a6cd612c441d4bb71b4"), "a long seed")
}

func TestPublicIsTheHeightAndTheRootOfTheLeaves(t *testing.T) {
	for _, seed := range seeds() {
		for height := range 8 {
			if height > 4 && seed != "seed" {
				continue
			}
			what := name(seed, height)
			public := mustNew(t, seed, height, 0).Public()
			var leaves []string
			for leaf := range 1 << height {
				leaves = append(leaves, wots.Public(seed, leaf))
			}
			w := codec.NewWriter()
			w.Num(uint64(height))
			if len(public) != 40 {
				t.Fatalf("%s: %d bytes", what, len(public))
			}
			mustBe(t, public[:8], w.Bytes(), what+": height")
			mustBe(t, public[8:], tree.Root(leaves), what+": root")
			mustBe(t, public, refPublic(seed, height), what)
		}
	}
}

func TestANewSignerHasSoManyLeavesSpent(t *testing.T) {
	for _, seed := range []string{"", "s", "seed"} {
		for height := range 8 {
			public := refPublic(seed, height)
			for _, spent := range spents(height) {
				s := mustNew(t, seed, height, spent)
				for range 3 {
					mustBeSpent(t, s, spent)
					mustBe(t, s.Public(), public, name(seed, height, spent))
				}
			}
		}
	}
	for spent := range 33 {
		mustBeSpent(t, mustNew(t, "s", 5, spent), spent)
	}
}

func TestASignerHasAsManyLeavesAsItsHeightSays(t *testing.T) {
	for height, leaves := range []int{1, 2, 4, 8, 16, 32, 64, 128} {
		s := mustNew(t, "s", height, 0)
		for range leaves {
			mustSign(t, s, "m")
		}
		mustHaveNoLeaf(t, s, "m")
		mustBeSpent(t, s, leaves)
	}
}

func TestNewOutsideOfTheBounds(t *testing.T) {
	mustFail := func(seed string, height, spent int) {
		t.Helper()
		for range 2 {
			if s, err := signer.New(seed, height, spent); s != nil || err != api.ErrArg {
				t.Errorf("New of %s: a signer is %t, error %d", name(seed, height, spent), s != nil, err)
			}
		}
	}
	wrongHeights := []int{
		-1, -2, -7, -8, -64, -256, -1 << 32, math.MinInt32, math.MinInt + 1, math.MinInt, math.MinInt + 3,
		8, 9, 10, 16, 31, 32, 33, 62, 63, 64, 65, 127, 128, 255, 256, 1 << 16, 1 << 32, 1<<32 + 3, 1 << 62, math.MaxInt32, math.MaxInt - 1, math.MaxInt,
	}
	wrongSpents := []int{-1, -2, -128, -1 << 32, math.MinInt32, math.MinInt + 1, math.MinInt, 129, 130, 256, 257, 1 << 16, 1 << 32, 1<<32 + 1, 1 << 62, math.MaxInt32, math.MaxInt - 1, math.MaxInt}
	for _, seed := range []string{"", "s", run(1000, 1)} {
		for _, height := range wrongHeights {
			for _, spent := range append(wrongSpents, 0, 1, 2, 4, 128, height) {
				mustFail(seed, height, spent)
			}
		}
		for height := range 8 {
			for _, spent := range append(wrongSpents, 1<<height+1, 1<<height+2, 2<<height+1) {
				mustFail(seed, height, spent)
			}
		}
	}
	for height := range 7 {
		mustFail("s", height, 2<<height)
		mustFail("s", height, 128)
	}
}

func TestSeedsAndHeightsHaveKeysOfTheirOwn(t *testing.T) {
	seen := map[string]string{}
	for _, seed := range seeds() {
		for height := range 5 {
			root := mustNew(t, seed, height, 0).Public()[8:]
			what := name(seed, height)
			if other, ok := seen[root]; ok {
				t.Errorf("%s has the root of %s", what, other)
			}
			seen[root] = what
		}
	}
}

// G2

func TestSignWordForWord(t *testing.T) {
	for _, c := range []struct {
		seed         string
		height, leaf int
		msg          string
		size         int
		want         string
	}{
		{"s", 0, 0, "m", 172, "3d75041ee548ae947a1bec0fd646f54850802ad29d35c0addfc78a3e2819f285"},
		{"s", 1, 0, "m", 208, "3cca30fc29a51837ad8949c986c1ab79ce855e0284baac159446886a2476149d"},
		{"s", 1, 1, "n", 208, "7b92c59f7197ad6d83fbcc7e9dc03dfb03d79065f71478f140ceef0bc048190e"},
		{"s", 2, 3, "", 244, "8f4d50b9e3a2c6a41980d87c5f4a458fc5163c91d7230d4f3317792104625308"},
		{"s", 7, 127, "m", 424, "f9950a7521a214edfbffe9b9b82df2087b5920897fa5f64931f007d61e1c2f3f"},
		{"", 5, 31, "\xff\xfe", 352, "aceb81d1e2ec4acee17982109568bb0193f4ffb8b66935e20f378ca425a59f34"},
		{run(1000, 1), 3, 6, run(1000, 1), 280, "07b5a718b83a16d22aa72e278e9d913506da2faffb0cf29541b89f5becc7bb26"},
	} {
		sig := mustSign(t, mustNew(t, c.seed, c.height, c.leaf), c.msg)
		sum := sha256.Sum256([]byte(sig))
		mustBe(t, string(sum[:]), unhex(t, c.want), name(c.seed, c.height, c.leaf))
		if len(sig) != c.size {
			t.Errorf("%s: %d bytes, want %d", name(c.seed, c.height, c.leaf), len(sig), c.size)
		}
	}
	mustBe(t, mustSign(t, mustNew(t, "s", 1, 1), "n"), unhex(t, "0000000000000001"+
		"000000a0"+"3606692f101278a6e342540a34f1a9dc23c47ecd5ec5c67c10442039dba75938ad0dd111488400a6ca341356744e6d8c271fb34cd4a79d14eaca06985d149e8d535769df8f8e04e368665108595285b81595947819dc9d9d05399e51b8ac40b1b1fd46d1c1f34d134095e954233e40d83aaaa1a0bd1c9daa6c70e2cb63af1cd60a08dd51fa80ce1e3833c205c0dd3cfc59fe338122d88beb80fa3f6041bd8a61"+
		"00000020"+"04edad9ecc1125f47a78b6adade665e55f6819beaea2958c08a6ef8000f895e3"), "the second signature of s")
}

func TestTheExample(t *testing.T) {
	s := mustNew(t, "s", 1, 0)
	first, second := mustSign(t, s, "m"), mustSign(t, s, "m")
	mustHaveNoLeaf(t, s, "m")
	if !signer.Verify(s.Public(), "m", first) || !signer.Verify(s.Public(), "m", second) || first == second {
		t.Errorf("%x\n%x", first, second)
	}
}

// mustHaveParts reads a signature by chapter 2 and holds each part of it
// against the chapters 5 and 6.
func mustHaveParts(t *testing.T, sig, seed string, height, leaf int, msg string) {
	t.Helper()
	what := name(seed, height, leaf, msg)
	var leaves []string
	for i := range 1 << height {
		leaves = append(leaves, wots.Public(seed, i))
	}
	r := codec.NewReader(sig)
	if got := r.Num(); got != uint64(leaf) {
		t.Errorf("%s: it is of the leaf %d", what, got)
	}
	mustBe(t, r.Text(len(sig)), wots.Sign(seed, leaf, msg), what+": one-time signature")
	path := tree.Path(leaves, leaf)
	if len(path) != height {
		t.Errorf("%s: a path of %d", what, len(path))
	}
	for level, p := range path {
		mustBe(t, r.Text(len(sig)), p, what+": element "+strconv.Itoa(level))
	}
	if !r.End() {
		t.Errorf("%s: the signature goes on, or has too few parts", what)
	}
}

func TestThePartsOfSignatures(t *testing.T) {
	for height := range 8 {
		for _, leaf := range marks(height) {
			s := mustNew(t, "seed", height, leaf)
			mustBeSpent(t, s, leaf)
			sig := mustSign(t, s, "message")
			mustBeSpent(t, s, leaf+1)
			mustHaveParts(t, sig, "seed", height, leaf, "message")
			mustBe(t, sig, refSign("seed", height, leaf, "message"), name(height, leaf))
		}
	}
}

func TestLeavesSignOneBehindTheOther(t *testing.T) {
	for _, height := range []int{0, 1, 2, 3, 5} {
		s := mustNew(t, "s", height, 0)
		public := s.Public()
		for leaf := range 1 << height {
			mustBeSpent(t, s, leaf)
			msg := "message " + strconv.Itoa(leaf*leaf)
			mustHaveParts(t, mustSign(t, s, msg), "s", height, leaf, msg)
			mustBeSpent(t, s, leaf+1)
			mustBe(t, s.Public(), public, "public key with "+name(leaf+1)+" spent")
		}
		mustHaveNoLeaf(t, s, "m")
	}
}

func TestSignaturesOfManySeedsAndMessages(t *testing.T) {
	for _, seed := range seeds() {
		s := mustNew(t, seed, 4, 0)
		for leaf, msg := range messages() {
			mustBe(t, mustSign(t, s, msg), refSign(seed, 4, leaf, msg), name(seed, leaf, msg))
		}
	}
}

func TestASpentSignerStaysSpent(t *testing.T) {
	for height := range 8 {
		used, born := mustNew(t, "s", height, 1<<height-1), mustNew(t, "s", height, 1<<height)
		mustSign(t, used, "m")
		public := used.Public()
		for _, s := range []*signer.Signer{used, born} {
			for range 300 {
				for _, msg := range []string{"m", "", "n"} {
					mustHaveNoLeaf(t, s, msg)
				}
				mustBeSpent(t, s, 1<<height)
			}
			mustHaveNoLeaf(t, s, run(1<<20, 1))
			mustBe(t, s.Public(), public, "public key with all leaves spent")
		}
	}
}

// G3

// all are the signatures of a message by each leaf.
func all(t *testing.T, seed string, height int, msg string) (public string, sigs []string) {
	t.Helper()
	s := mustNew(t, seed, height, 0)
	for range 1 << height {
		sigs = append(sigs, mustSign(t, s, msg))
	}
	return s.Public(), sigs
}

func TestVerifyOfEachLeaf(t *testing.T) {
	for height := range 8 {
		public, sigs := all(t, "seed", height, "message")
		for leaf, sig := range sigs {
			mustVerify(t, public, "message", sig, true, name(height, leaf))
			for _, msg := range []string{"", "Message", "message ", "messag", "essage", "message\x00", sig, public} {
				mustVerify(t, public, msg, sig, false, name(height, leaf, msg))
			}
		}
	}
}

func TestVerifyOfManyMessages(t *testing.T) {
	s := mustNew(t, "s", 4, 0)
	public := s.Public()
	sigs := map[string]string{}
	for _, msg := range messages() {
		sigs[msg] = mustSign(t, s, msg)
	}
	for signed, sig := range sigs {
		for _, msg := range messages() {
			mustVerify(t, public, msg, sig, msg == signed, name(signed, msg))
		}
	}
}

func TestVerifyByAnotherKey(t *testing.T) {
	for height := range 5 {
		for _, of := range []string{"s", "t", ""} {
			_, sigs := all(t, of, height, "m")
			for by := range 5 {
				for _, seed := range []string{"s", "t", ""} {
					public := mustNew(t, seed, by, 0).Public()
					for leaf, sig := range sigs {
						mustVerify(t, public, "m", sig, seed == of && by == height, name(of, height, seed, by, leaf))
					}
				}
			}
		}
	}
}

func TestVerifyByAPublicKeyOfAnotherLength(t *testing.T) {
	for height := range 4 {
		public, sigs := all(t, "s", height, "m")
		sig := sigs[len(sigs)-1]
		for cut := range public {
			mustVerify(t, public[:cut], "m", sig, false, "public key cut to "+strconv.Itoa(cut))
			mustVerify(t, public[cut+1:], "m", sig, false, "public key cut from "+strconv.Itoa(cut+1))
			mustVerify(t, public[:cut]+public[cut+1:], "m", sig, false, "public key without its byte "+strconv.Itoa(cut))
			mustVerify(t, public[:cut]+"\x00"+public[cut:], "m", sig, false, "public key with a byte more at "+strconv.Itoa(cut))
		}
		for _, more := range []string{"\x00", "x", public, public[8:], run(1<<16, 0), run(1<<20, 1)} {
			mustVerify(t, public+more, "m", sig, false, "public key that goes on")
			mustVerify(t, more+public, "m", sig, false, "public key behind something")
		}
	}
	for n := range 200 {
		mustVerify(t, run(n, 0), "m", "", false, "zeros for a public key")
		mustVerify(t, run(n, 0), "m", layOut(0, run(160, 1)), false, "zeros for a public key")
		mustVerify(t, run(n, 1), "m", run(n, 1), false, "a run for a public key")
	}
}

func TestVerifyByAPublicKeyOfAnotherHeight(t *testing.T) {
	for height := range 8 {
		public, sigs := all(t, "s", height, "m")
		heights := []uint64{8, 9, 15, 16, 63, 64, 65, 127, 128, 255, 256, 1 << 16, 1 << 32, 1 << 40, 1 << 56, 1 << 63, 1<<63 - 1, math.MaxUint64, math.MaxUint64 - 7}
		for bit := 3; bit < 64; bit++ {
			heights = append(heights, uint64(height)|1<<bit)
		}
		for other := range 8 {
			if other != height {
				heights = append(heights, uint64(other))
			}
		}
		for _, h := range heights {
			mustVerify(t, refNum(h)+public[8:], "m", sigs[0], false, name(height)+", said to be "+strconv.FormatUint(h, 10))
			mustVerify(t, refNum(h)+public[8:], "m", sigs[len(sigs)-1], false, name(height)+", said to be "+strconv.FormatUint(h, 10))
		}
		mustVerify(t, refNum(uint64(height))+public[8:], "m", sigs[0], true, name(height))
	}
}

// What is said here would be a signature, but for the height of the tree.
func TestVerifyByATreeThatIsTooHigh(t *testing.T) {
	oneTime := refOneTime("s", 0, "m")
	for height := range 70 {
		path := make([]string, height)
		for level := range path {
			path[level] = refTag(5, "beside", strconv.Itoa(level))
		}
		root := refClimb(refFrom(oneTime, "m"), 0, path)
		mustVerify(t, refNum(uint64(height))+root, "m", layOut(0, oneTime, path...), height < 8, "a tree of the height "+strconv.Itoa(height))
	}
	leaves := refLeaves("s", 8)
	for _, leaf := range []int{0, 1, 127, 128, 255} {
		sig := layOut(uint64(leaf), refOneTime("s", leaf, "m"), refPath(leaves, leaf)...)
		mustVerify(t, refNum(8)+refRoot(leaves), "m", sig, false, "leaf "+strconv.Itoa(leaf)+" of 256")
	}
}

// The number of a leaf beyond the tree may climb as one of the tree does.
func TestVerifyOfALeafThatTheTreeHasNot(t *testing.T) {
	for height := range 8 {
		public, sigs := all(t, "s", height, "m")
		for _, leaf := range marks(height) {
			rest := sigs[leaf][8:]
			numbers := []uint64{1 << height, 1<<height + 1, 128, 256, math.MaxInt64, math.MaxUint64, math.MaxUint64 - 1, uint64(leaf) + 3<<height}
			for bit := height; bit < 64; bit++ {
				numbers = append(numbers, uint64(leaf)|1<<bit, 1<<bit)
			}
			for _, n := range numbers {
				mustVerify(t, public, "m", refNum(n)+rest, false, name(height, leaf)+" as "+strconv.FormatUint(n, 10))
			}
			for other := range 1 << height {
				mustVerify(t, public, "m", refNum(uint64(other))+rest, other == leaf, name(height, leaf)+" as "+strconv.Itoa(other))
			}
		}
	}
}

func TestVerifyOfASignatureThatIsCut(t *testing.T) {
	for _, height := range []int{0, 1, 2, 7} {
		public, sigs := all(t, "s", height, "m")
		for _, leaf := range []int{0, 1<<height - 1} {
			sig := sigs[leaf]
			for cut := range sig {
				what := name(height, leaf, cut)
				mustVerify(t, public, "m", sig[:cut], false, "cut to "+what)
				mustVerify(t, public, "m", sig[cut+1:], false, "cut from "+what)
				mustVerify(t, public, "m", sig[:cut]+sig[cut+1:], false, "without the byte "+what)
			}
			mustVerify(t, public, "m", sig, true, name(height, leaf))
		}
	}
}

func TestVerifyOfASignatureThatGoesOn(t *testing.T) {
	for height := range 8 {
		public, sigs := all(t, "s", height, "m")
		sig := sigs[0]
		for _, more := range []string{"\x00", "x", "\xff", run(4, 0), refText(""), refText(run(32, 1)), refText(sig[12:172]), refNum(0), sig, sig[172:], public, run(36, 0), run(1<<20, 1)} {
			if more == "" {
				continue
			}
			mustVerify(t, public, "m", sig+more, false, name(height)+" and "+name(more))
			mustVerify(t, public, "m", more+sig, false, name(height)+" behind "+name(more))
			mustVerify(t, public, "m", sig[:8]+more+sig[8:], false, name(height)+" with "+name(more))
			mustVerify(t, public, "m", sig[:172]+more+sig[172:], false, name(height)+" with "+name(more)+" ahead of the path")
		}
		for at := range sig {
			mustVerify(t, public, "m", sig[:at]+"\x00"+sig[at:]+"x", false, name(height, at)+" with a byte more, and one behind")
		}
	}
}

// Each of these public keys is that of the signature's parts, as long as their
// lengths do not count.
func TestVerifyOfTextsOfOtherLengths(t *testing.T) {
	oneTime, path := refOneTime("s", 0, "m"), []string{run(32, 1), run(32, 3), run(32, 5)}
	key := func(leaf string, leafNumber uint64, path []string) string {
		return refNum(3) + refClimb(leaf, leafNumber, path)
	}
	for i := range uint64(8) {
		mustVerify(t, key(refFrom(oneTime, "m"), i, path), "m", layOut(i, oneTime, path...), true, "a key of made up neighbors")
		for _, size := range []int{0, 1, 16, 31, 33, 64, 160, 256, 4096, 1 << 16, 1 << 20} {
			for level := range path {
				wrong := slices.Clone(path)
				wrong[level] = run(size, 1)
				mustVerify(t, key(refFrom(oneTime, "m"), i, wrong), "m", layOut(i, oneTime, wrong...), false, "an element of "+strconv.Itoa(size))
			}
		}
		for _, size := range []int{0, 1, 16, 32, 144, 159, 161, 176, 320, 416, 4096, 1 << 16, 1 << 20} {
			wrong := layOut(i, run(size, 1), path...)
			mustVerify(t, key("", i, path), "m", wrong, false, "a one-time signature of "+strconv.Itoa(size))
			mustVerify(t, key(wots.From(run(160, 1), "m"), i, path), "m", wrong, false, "a one-time signature of "+strconv.Itoa(size))
		}
	}
}

func TestVerifyOfAnotherCountOfTexts(t *testing.T) {
	oneTime := refOneTime("s", 0, "m")
	for height := range 8 {
		for count := range 12 {
			path := make([]string, count)
			for level := range path {
				path[level] = run(32, level)
			}
			sig := layOut(0, oneTime, path...)
			for _, used := range []int{min(count, height), count} {
				public := refNum(uint64(height)) + refClimb(refFrom(oneTime, "m"), 0, path[:used])
				mustVerify(t, public, "m", sig, count == height, name(height, count, used))
			}
		}
		mustVerify(t, refNum(uint64(height))+refFrom(oneTime, "m"), "m", refNum(0), false, "no text")
		mustVerify(t, refNum(uint64(height))+refFrom(oneTime, "m"), "m", refText(oneTime), false, "no number")
		mustVerify(t, refNum(uint64(height))+refFrom(oneTime, "m"), "m", layOut(0, oneTime, oneTime), false, "two one-time signatures")
	}
}

// The lengths ahead of the texts, in all their four bytes.
func TestVerifyOfLengthsThatAreWrong(t *testing.T) {
	public, sigs := all(t, "s", 2, "m")
	sig := sigs[1]
	for _, at := range []int{8, 172, 208} {
		for _, length := range []uint32{0, 1, 31, 32, 33, 35, 36, 68, 159, 160, 161, 164, 196, 232, 256 + 32, 256 + 160, 1<<16 + 160, 1<<24 + 32, 1 << 31, 1<<31 + 160, math.MaxUint32, math.MaxUint32 - 31} {
			changed := sig[:at] + string(binary.BigEndian.AppendUint32(nil, length)) + sig[at+4:]
			mustVerify(t, public, "m", changed, changed == sig, "the length "+strconv.FormatUint(uint64(length), 10)+" at "+strconv.Itoa(at))
		}
	}
}

func TestVerifyOfASignatureWithAByteChanged(t *testing.T) {
	for _, height := range []int{0, 1, 3} {
		public, sigs := all(t, "s", height, "m")
		for _, leaf := range []int{0, 1<<height - 1} {
			sig := sigs[leaf]
			for at := range sig {
				for _, change := range []byte{1, 2, 128, 255} {
					changed := sig[:at] + string([]byte{sig[at] ^ change}) + sig[at+1:]
					mustVerify(t, public, "m", changed, false, name(height, leaf)+", the byte "+strconv.Itoa(at)+" changed")
				}
			}
			for at := range public {
				for _, change := range []byte{1, 8, 128, 255} {
					changed := public[:at] + string([]byte{public[at] ^ change}) + public[at+1:]
					mustVerify(t, changed, "m", sig, false, name(height, leaf)+", the byte "+strconv.Itoa(at)+" of the key changed")
				}
			}
		}
	}
}

func TestVerifyOfPartsThatAreExchanged(t *testing.T) {
	for _, height := range []int{1, 2, 3, 7} {
		public, sigs := all(t, "s", height, "m")
		for leaf, sig := range sigs[:2] {
			oneTime, path := sig[12:172], []string{}
			for at := 172; at < len(sig); at += 36 {
				path = append(path, sig[at+4:at+36])
			}
			n := uint64(leaf)
			mustVerify(t, public, "m", layOut(n, oneTime, path...), true, name(height, leaf))
			for i := range path {
				for j := range i {
					moved := slices.Clone(path)
					moved[i], moved[j] = path[j], path[i]
					mustVerify(t, public, "m", layOut(n, oneTime, moved...), false, name(height, leaf, i, j)+" exchanged")
				}
				mustVerify(t, public, "m", refNum(n)+refText(path[i])+refText(oneTime)+sig[208:], false, "the path first")
			}
			mustVerify(t, public, "m", layOut(n, sigs[1-leaf][12:172], path...), false, "another leaf's one-time signature")
			mustVerify(t, public, "m", sig[8:]+sig[:8], false, "the number last")
		}
	}
}

func TestVerifyOfAnyTexts(t *testing.T) {
	public, sigs := all(t, "s", 3, "m")
	texts := []string{"", public, sigs[0], sigs[7], run(40, 0), run(172, 0), run(280, 0), run(40, 255), run(1<<20, 0), run(1<<20, 255), layOut(0, run(160, 1))}
	for n := range 50 {
		texts = append(texts, run(n*7, 1), run(n*9, 0), run(n*8, 255))
	}
	for _, p := range texts {
		for _, msg := range []string{"", "m"} {
			for _, sig := range texts {
				want := p == public && msg == "m" && (sig == sigs[0] || sig == sigs[7])
				mustVerify(t, p, msg, sig, want, name(p, msg, sig))
			}
		}
	}
}

// Any neighbors will do for a key that says so: nothing but the climb counts.
func TestVerifyOfKeysThatNoSignerHas(t *testing.T) {
	for height := range 8 {
		path := make([]string, height)
		for level := range path {
			path[level] = run(32, level)
		}
		for _, leaf := range marks(height) {
			for _, oneTime := range []string{run(160, 0), run(160, 1), refOneTime("s", 5, "m")} {
				public := refNum(uint64(height)) + refClimb(refFrom(oneTime, "m"), uint64(leaf), path)
				sig := layOut(uint64(leaf), oneTime, path...)
				mustVerify(t, public, "m", sig, true, name(height, leaf))
				mustVerify(t, public, "n", sig, false, name(height, leaf)+" for another message")
			}
		}
	}
}

// G4

func TestEverySignatureIsValidAndNoLeafSignsTwice(t *testing.T) {
	for _, seed := range []string{"", "s", run(100, 3)} {
		for height := range 8 {
			s := mustNew(t, seed, height, 0)
			public := s.Public()
			seen := map[uint64]int{}
			for i := range 1 << height {
				msg := strconv.Itoa(i % 5)
				sig := mustSign(t, s, msg)
				seen[codec.NewReader(sig).Num()]++
				mustVerify(t, public, msg, sig, true, name(seed, height, i))
			}
			for leaf := range uint64(1 << height) {
				if seen[leaf] != 1 {
					t.Errorf("%s: the leaf %d signed %d times", name(seed, height), leaf, seen[leaf])
				}
			}
			mustHaveNoLeaf(t, s, "m")
			if len(seen) != 1<<height {
				t.Errorf("%s: %d leaves signed", name(seed, height), len(seen))
			}
		}
	}
}

// mustGoOnAlike lets two signers sign until they are spent.
func mustGoOnAlike(t *testing.T, a, b *signer.Signer) {
	t.Helper()
	for i := range 130 {
		mustBe(t, a.Public(), b.Public(), "public key")
		mustBeSpent(t, a, b.Spent())
		msg := strconv.Itoa(i)
		x, ex := a.Sign(msg)
		y, ey := b.Sign(msg)
		mustBe(t, x, y, "signature "+msg)
		if ex != ey {
			t.Errorf("signature %d: errors %d and %d", i, ex, ey)
		}
		if ex != api.OK && i > 2 {
			return
		}
	}
}

func TestASignerWithSpentLeavesGoesOn(t *testing.T) {
	for height := range 8 {
		for _, spent := range spents(height) {
			used := mustNew(t, "seed", height, 0)
			for i := range spent {
				mustSign(t, used, strings.Repeat("x", i))
			}
			mustGoOnAlike(t, mustNew(t, "seed", height, spent), used)
		}
	}
}

func TestNoCutOrExtendedSignatureIsValid(t *testing.T) {
	for height := range 4 {
		public, sigs := all(t, "seed", height, "message")
		for leaf, sig := range sigs {
			for cut := range sig {
				if signer.Verify(public, "message", sig[:cut]) {
					t.Errorf("%s: valid when cut to %d", name(height, leaf), cut)
				}
			}
			for b := range 256 {
				if signer.Verify(public, "message", sig+string([]byte{byte(b)})) {
					t.Errorf("%s: valid with %d behind", name(height, leaf), b)
				}
			}
			for _, more := range sigs {
				if signer.Verify(public, "message", sig+more) || signer.Verify(public, "message", sig+more[172:]+"\x00") {
					t.Errorf("%s: valid with a signature behind", name(height, leaf))
				}
			}
		}
	}
}

func TestSignersOfOneSeedDoNotTouchOneAnother(t *testing.T) {
	a, b, higher := mustNew(t, "s", 2, 0), mustNew(t, "s", 2, 0), mustNew(t, "s", 3, 2)
	public := a.Public()
	for leaf := range 3 {
		mustBe(t, mustSign(t, a, "m"), refSign("s", 2, leaf, "m"), "the first one, leaf "+strconv.Itoa(leaf))
		mustBeSpent(t, a, leaf+1)
		mustBeSpent(t, b, 0)
		mustBeSpent(t, higher, 2)
	}
	for leaf := range 4 {
		mustBe(t, mustSign(t, b, "n"), refSign("s", 2, leaf, "n"), "the second one, leaf "+strconv.Itoa(leaf))
		mustBeSpent(t, a, 3)
	}
	mustHaveNoLeaf(t, b, "n")
	mustBe(t, mustSign(t, higher, "m"), refSign("s", 3, 2, "m"), "the higher one")
	mustBe(t, mustSign(t, a, "m"), refSign("s", 2, 3, "m"), "the first one, the last leaf")
	mustHaveNoLeaf(t, a, "m")
	mustBe(t, a.Public()+b.Public(), public+public, "public keys")
	mustBeSpent(t, higher, 3)
	if s, err := signer.New("s", 2, 5); s != nil || err != api.ErrArg {
		t.Error(err)
	}
	mustBeSpent(t, a, 4)
}

func TestVerifySpendsNothing(t *testing.T) {
	s := mustNew(t, "s", 2, 1)
	public, sig := s.Public(), mustSign(t, s, "m")
	for _, msg := range []string{"m", "n", "m"} {
		mustVerify(t, public, msg, sig, msg == "m", msg)
		mustBeSpent(t, s, 2)
	}
	mustBe(t, mustSign(t, s, "n"), refSign("s", 2, 2, "n"), "the next signature")
}

// A seed whose memory the caller writes over is none that a Signer may still
// read.
func TestNoSeedIsKept(t *testing.T) {
	memory := []byte("a seed of the caller's")
	s := mustNew(t, unsafe.String(&memory[0], len(memory)), 2, 0)
	clear(memory)
	mustBe(t, s.Public(), refPublic("a seed of the caller's", 2), "public key")
	for leaf := range 4 {
		mustBe(t, mustSign(t, s, "m"), refSign("a seed of the caller's", 2, leaf, "m"), "leaf "+strconv.Itoa(leaf))
	}
}

func TestNoTextIsGivenTwice(t *testing.T) {
	s := mustNew(t, "s", 0, 0)
	texts := []string{s.Public(), s.Public(), mustNew(t, "s", 0, 0).Public(), mustSign(t, s, "m"), mustSign(t, mustNew(t, "s", 0, 0), "m")}
	seen := map[*byte]bool{}
	for _, text := range texts {
		seen[unsafe.StringData(text)] = true
	}
	if len(seen) != len(texts) {
		t.Error("two results share memory")
	}
}

// No call may leave something behind that another one meets: the answers are
// the same in any order, and from several goroutines at once.
func TestCallsAreIndependent(t *testing.T) {
	ask := func(i int) string {
		s, err := signer.New(strconv.Itoa(i), i%4, 0)
		out := s.Public() + strconv.Itoa(int(err))
		for range 3 {
			sig, err := s.Sign(strconv.Itoa(i * 7))
			out += sig + strconv.Itoa(int(err)) + strconv.Itoa(s.Spent())
			out += strconv.FormatBool(signer.Verify(s.Public(), strconv.Itoa(i*7), sig))
		}
		return out
	}
	var want []string
	for i := range 20 {
		want = append(want, ask(i))
	}
	for i := 19; i >= 0; i-- {
		mustBe(t, ask(i), want[i], "the answers to "+strconv.Itoa(i))
	}
	done := make(chan int)
	for range 8 {
		go func() {
			wrong := 0
			for i := range want {
				if ask(i) != want[i] {
					wrong++
				}
			}
			done <- wrong
		}()
	}
	for range 8 {
		if wrong := <-done; wrong > 0 {
			t.Errorf("%d answers were others in a goroutine", wrong)
		}
	}
}
