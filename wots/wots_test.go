package wots_test

import (
	"crypto/sha256"
	"encoding/binary"
	"encoding/hex"
	"math"
	"slices"
	"strconv"
	"strings"
	"testing"

	"voussoir/codec"
	"voussoir/sha"
	"voussoir/wots"
)

const (
	value16 = "0123456789abcdef"
	chains  = 10
)

// The functions from here to refFrom are a second way to the answers, by the
// library's means.

func refTag(domain byte, parts ...string) string {
	in := []byte{domain}
	for _, part := range parts {
		in = binary.BigEndian.AppendUint32(in, uint32(len(part)))
		in = append(in, part...)
	}
	sum := sha256.Sum256(in)
	return string(sum[:])
}

func refEncoding(n int) string {
	out := make([]byte, 8)
	if 0 <= n && n <= 4294967296 {
		binary.BigEndian.PutUint64(out, uint64(n))
	}
	return string(out)
}

func refDigits(msg string) []int {
	var out []int
	sum := 0
	for _, c := range hex.EncodeToString([]byte(refTag(1, msg)[:4])) {
		d := strings.IndexRune("0123456789abcdef", c)
		out = append(out, d)
		sum += 15 - d
	}
	return append(out, sum/16, sum%16)
}

func refStep(chain, at int, value string) string {
	return refTag(2, refEncoding(chain), refEncoding(at), value)[:16]
}

// refWalk starts at the outermost Step, as the chapter writes it.
func refWalk(chain, from, to int, value string) string {
	if from >= to || from < 0 || to > 15 {
		return value
	}
	return refStep(chain, to-1, refWalk(chain, from, to-1, value))
}

func refSecret(seed string, leaf, chain int) string {
	return refTag(3, seed, refEncoding(leaf), refEncoding(chain))[:16]
}

func refPublic(seed string, leaf int) string {
	var parts []string
	for chain := range chains {
		parts = append(parts, refWalk(chain, 0, 15, refSecret(seed, leaf, chain)))
	}
	return refTag(4, parts...)
}

func refSign(seed string, leaf int, msg string) string {
	out := ""
	for chain, d := range refDigits(msg) {
		out += refWalk(chain, 0, d, refSecret(seed, leaf, chain))
	}
	return out
}

func refFrom(sig, msg string) string {
	if len(sig) != 160 {
		return ""
	}
	var parts []string
	for chain, d := range refDigits(msg) {
		parts = append(parts, refWalk(chain, d, 15, sig[16*chain:16*chain+16]))
	}
	return refTag(4, parts...)
}

// run is a text of n bytes that repeats only after 256 of them, if step is odd.
func run(n, step int) string {
	out := make([]byte, n)
	for i := range out {
		out[i] = byte(i * step)
	}
	return string(out)
}

// messages are short and long ones, and those around the end of a block.
func messages() []string {
	out := []string{"", "m", "n", "abc", "é", "\xff\xfe", run(1000, 1), run(65536, 7), strings.Repeat("x", 1000000)}
	for b := range 256 {
		out = append(out, string([]byte{byte(b)}))
	}
	for n := range 150 {
		out = append(out, run(n, 0), run(n, 3))
	}
	for i := range 1000 {
		out = append(out, strconv.Itoa(i))
	}
	return out
}

// few are messages for tests that take each of them in many ways; the checksum
// of the last ones is the least and the greatest that was found, and those
// around where its upper digit changes.
func few() []string {
	return []string{"", "m", "n", run(1000, 1), "3982922", "12399", "37942", "149", "310", "1659", "408666", "82088", "4024535"}
}

func seeds() []string {
	return []string{"", "s", "t", "seed", "see", "\x00", "\x00\x00", "\xff", "é", "seed\x00", run(8, 0), run(16, 1), run(32, 5), run(33, 5), run(64, 1), run(1000, 3)}
}

// ordinary are numbers from 0 to 2^32, the first of them being 0.
func ordinary() []int {
	return []int{0, 1, 2, 3, 9, 10, 14, 15, 16, 127, 128, 255, 256, 65535, 65536, math.MaxInt32, math.MaxInt32 + 1, math.MaxUint32 - 1, math.MaxUint32, 1 << 32}
}

// beyond are numbers that are encoded like 0.
func beyond() []int {
	return []int{
		-1, -2, -15, -16, -256, math.MinInt32, -1 << 32, -1<<32 - 1, -1<<32 + 1, math.MinInt + 1, math.MinInt,
		1<<32 + 1, 1<<32 + 2, 1<<32 + 15, 1 << 33, 1<<40 + 3, 1 << 62, math.MaxInt - 1, math.MaxInt,
	}
}

func values() []string {
	return []string{value16, run(16, 0), run(16, 255), "", "a", "\x00", run(15, 3), run(17, 3), run(31, 1), run(32, 1), run(33, 1), run(160, 7), run(1000, 1), run(1<<17, 1)}
}

func mustBe(t *testing.T, got, want, what string) {
	t.Helper()
	if got != want {
		t.Errorf("%s: %x, want %x", what, got, want)
	}
}

func unhex(t *testing.T, s string) string {
	t.Helper()
	out, err := hex.DecodeString(s)
	if err != nil {
		t.Fatal(err)
	}
	return string(out)
}

// W1

func TestDigitsOfSingleMessages(t *testing.T) {
	for _, c := range []struct {
		msg  string
		want []int
	}{
		{"", []int{9, 5, 7, 11, 8, 8, 11, 1, 3, 12}},
		{"m", []int{9, 8, 6, 7, 11, 12, 2, 11, 3, 6}},
		{"n", []int{4, 7, 5, 7, 7, 12, 11, 11, 3, 8}},
		{"abc", []int{4, 14, 6, 13, 1, 7, 1, 14, 3, 12}},
		{"\x00", []int{10, 9, 0, 13, 4, 5, 6, 3, 4, 6}},
		{"\xff", []int{9, 11, 4, 10, 14, 11, 1, 3, 3, 9}},
		{run(1000, 1), []int{9, 15, 2, 8, 7, 5, 1, 1, 4, 8}},
		{strings.Repeat("x", 1000000), []int{12, 8, 0, 8, 10, 2, 1, 4, 4, 11}},
	} {
		if got := wots.Digits(c.msg); !slices.Equal(got, c.want) {
			t.Errorf("Digits of %d bytes = %v, want %v", len(c.msg), got, c.want)
		}
	}
}

// The checksum at its least and its greatest that were found, and around the
// multiples of 16.
func TestDigitsWithEachUpperDigitOfTheChecksum(t *testing.T) {
	for _, c := range []struct {
		msg  string
		want []int
	}{
		{"3982922", []int{15, 15, 15, 14, 15, 14, 15, 14, 0, 3}},
		{"12399", []int{11, 15, 15, 13, 13, 15, 9, 14, 0, 15}},
		{"37942", []int{15, 14, 6, 12, 15, 15, 15, 12, 1, 0}},
		{"14209", []int{12, 9, 13, 15, 9, 15, 15, 15, 1, 1}},
		{"149", []int{14, 15, 15, 0, 6, 12, 14, 13, 1, 15}},
		{"310", []int{12, 13, 0, 15, 13, 13, 11, 11, 2, 0}},
		{"96", []int{9, 12, 10, 7, 5, 14, 13, 3, 2, 15}},
		{"16", []int{5, 7, 4, 5, 11, 13, 14, 13, 3, 0}},
		{"46", []int{13, 12, 5, 3, 2, 4, 5, 13, 3, 15}},
		{"23", []int{7, 7, 1, 8, 13, 4, 15, 1, 4, 0}},
		{"68", []int{2, 6, 9, 3, 0, 8, 4, 9, 4, 15}},
		{"108", []int{7, 12, 0, 0, 13, 1, 7, 0, 5, 0}},
		{"81", []int{7, 5, 0, 4, 1, 4, 3, 1, 5, 15}},
		{"1659", []int{7, 1, 2, 0, 4, 3, 1, 6, 6, 0}},
		{"408666", []int{3, 0, 1, 0, 1, 0, 2, 2, 6, 15}},
		{"82088", []int{1, 0, 1, 0, 0, 1, 4, 1, 7, 0}},
		{"4024535", []int{1, 0, 0, 0, 1, 0, 0, 2, 7, 4}},
	} {
		if got := wots.Digits(c.msg); !slices.Equal(got, c.want) {
			t.Errorf("Digits(%q) = %v, want %v", c.msg, got, c.want)
		}
	}
}

func TestDigitsOfManyMessages(t *testing.T) {
	for _, msg := range messages() {
		got := wots.Digits(msg)
		if want := refDigits(msg); !slices.Equal(got, want) {
			t.Fatalf("Digits of %d bytes = %v, want %v", len(msg), got, want)
		}
		hash, checksum := sha.Tag(1, []string{msg}), 0
		for i, d := range got[:8] {
			if want := int(hash[i/2]) / []int{16, 1}[i%2] % 16; d != want {
				t.Errorf("digit %d of %d bytes is %d, want %d", i, len(msg), d, want)
			}
			checksum += 15 - d
		}
		if len(got) != 10 || got[8] != checksum/16 || got[9] != checksum%16 {
			t.Errorf("Digits of %d bytes = %v, with a checksum of %d", len(msg), got, checksum)
		}
	}
}

// The tests of other calls lean on it that all digits come up in all places.
func TestEachDigitComesUpInEachPlace(t *testing.T) {
	var seen [chains][16]bool
	for _, msg := range messages() {
		for i, d := range wots.Digits(msg) {
			if d < 0 || d > 15 {
				t.Fatalf("digit %d of %q is %d", i, msg, d)
			}
			seen[i][d] = true
		}
	}
	for i, digits := range seen {
		for d, ok := range digits {
			// The upper digit of the checksum is at most 7, and seldom at an end.
			if !ok && (i != 8 || 2 <= d && d <= 6) {
				t.Errorf("no message has the digit %d in place %d", d, i)
			}
		}
	}
}

func TestDigitsAreNewMemory(t *testing.T) {
	for _, msg := range few() {
		want := refDigits(msg)
		first, second := wots.Digits(msg), wots.Digits(msg)
		for i := range first {
			first[i] = -1
		}
		for range 20 {
			first = append(first, -1)
		}
		spare := first[:cap(first)]
		for i := range spare {
			spare[i] = -1
		}
		if third := wots.Digits(msg); !slices.Equal(second, want) || !slices.Equal(third, want) {
			t.Errorf("Digits(%q) became %v and %v, want %v", msg, second, third, want)
		}
	}
}

func TestSpareMemoryOfDigitsIsNew(t *testing.T) {
	first, second := wots.Digits("m"), wots.Digits("n")
	first, second = append(first, 1), append(second, 2)
	if first[10] != 1 || second[10] != 2 || !slices.Equal(first[:10], refDigits("m")) || !slices.Equal(second[:10], refDigits("n")) {
		t.Error(first, second)
	}
}

// W2

func TestStepWordForWord(t *testing.T) {
	for _, c := range []struct {
		chain, at   int
		value, want string
	}{
		{0, 0, value16, "a0c5c5b16edad9c1e860a3b34cff9427"},
		{3, 5, value16, "0ecb037f593e0fcfbae362a4cbe93643"},
		{9, 14, value16, "f17e2c0852bd6398a4d7db70dd83038a"},
		{1 << 32, 1 << 32, value16, "333ce9fdccc8f08fde5269c89103c9d9"},
		{1<<32 - 1, 1, value16, "a482686fb3b3ec264b17863ece4a09cd"},
		{-1, 1<<32 + 1, value16, "a0c5c5b16edad9c1e860a3b34cff9427"},
		{math.MinInt, math.MaxInt, value16, "a0c5c5b16edad9c1e860a3b34cff9427"},
		{1, 0, "", "d06757ac788646928bad23091788f6ad"},
		{0, 1, "a", "99f527d8db55cb3e75d89d4055e9843e"},
		{7, 15, value16 + value16, "adfcd74aca9138bd0fcab5a2446ea9fd"},
	} {
		for range 2 {
			mustBe(t, wots.Step(c.chain, c.at, c.value), unhex(t, c.want), strconv.Itoa(c.chain)+" "+strconv.Itoa(c.at))
		}
	}
}

func TestStepIsTheValueOfATag(t *testing.T) {
	for _, n := range ordinary() {
		w := codec.NewWriter()
		w.Num(uint64(n))
		one := codec.NewWriter()
		one.Num(1)
		mustBe(t, wots.Step(n, 1, value16), sha.Tag(2, []string{w.Bytes(), one.Bytes(), value16})[:16], "chain "+strconv.Itoa(n))
		mustBe(t, wots.Step(1, n, value16), sha.Tag(2, []string{one.Bytes(), w.Bytes(), value16})[:16], "position "+strconv.Itoa(n))
	}
}

func TestStepOfAllKindsOfNumbersAndValues(t *testing.T) {
	numbers := append(ordinary(), beyond()...)
	for i, v := range values() {
		for _, chain := range numbers {
			for _, at := range numbers {
				if len(v) > 1000 && chain != at {
					continue
				}
				mustBe(t, wots.Step(chain, at, v), refStep(chain, at, v), "value "+strconv.Itoa(i)+" at "+strconv.Itoa(chain)+" "+strconv.Itoa(at))
			}
		}
	}
}

func TestNumbersBeyondAreLikeZero(t *testing.T) {
	for _, n := range beyond() {
		mustBe(t, wots.Step(n, 3, value16), wots.Step(0, 3, value16), "chain "+strconv.Itoa(n))
		mustBe(t, wots.Step(3, n, value16), wots.Step(3, 0, value16), "position "+strconv.Itoa(n))
		mustBe(t, wots.Step(n, n, value16), wots.Step(0, 0, value16), "both "+strconv.Itoa(n))
		mustBe(t, wots.Walk(n, 2, 9, value16), wots.Walk(0, 2, 9, value16), "walk "+strconv.Itoa(n))
		mustBe(t, wots.Public("s", n), wots.Public("s", 0), "key "+strconv.Itoa(n))
		mustBe(t, wots.Sign("s", n, "m"), wots.Sign("s", 0, "m"), "signature "+strconv.Itoa(n))
	}
}

func TestStepsOfDifferentNumbersAndValuesDiffer(t *testing.T) {
	seen := map[string]string{}
	for _, chain := range ordinary() {
		for _, at := range ordinary() {
			for i, v := range values()[:12] {
				name := strconv.Itoa(chain) + " " + strconv.Itoa(at) + " " + strconv.Itoa(i)
				got := wots.Step(chain, at, v)
				if other, ok := seen[got]; ok || len(got) != 16 {
					t.Fatalf("Step of %s is %x, as that of %q is", name, got, other)
				}
				seen[got] = name
			}
		}
	}
}

func TestWalkWordForWord(t *testing.T) {
	for _, c := range []struct {
		chain, from, to int
		want            string
	}{
		{0, 0, 15, "8cf9b9a74664bdd8136c99d54f0f2928"},
		{3, 5, 7, "ce3cc7f6f4ce0d1414983c3834a16993"},
		{9, 14, 15, "f17e2c0852bd6398a4d7db70dd83038a"},
	} {
		for range 2 {
			mustBe(t, wots.Walk(c.chain, c.from, c.to, value16), unhex(t, c.want), strconv.Itoa(c.chain))
		}
	}
}

func TestWalkFromAllPositionsToAll(t *testing.T) {
	for _, v := range []string{value16, "", "a", run(17, 3), run(160, 1)} {
		for _, chain := range []int{0, 3, 9, 10, 1 << 32, 1<<32 + 1, -1, math.MinInt, math.MaxInt} {
			for from := -4; from <= 20; from++ {
				for to := -4; to <= 20; to++ {
					name := "chain " + strconv.Itoa(chain) + " from " + strconv.Itoa(from) + " to " + strconv.Itoa(to)
					got := wots.Walk(chain, from, to, v)
					mustBe(t, got, refWalk(chain, from, to, v), name)
					if stays := from >= to || from < 0 || to > 15; stays != (got == v) {
						t.Errorf("%s: %x becomes %x", name, v, got)
					}
				}
			}
		}
	}
}

func TestWalkOverOnePositionIsAStep(t *testing.T) {
	for chain := range 12 {
		for from := range 15 {
			for _, v := range values() {
				mustBe(t, wots.Walk(chain, from, from+1, v), wots.Step(chain, from, v), strconv.Itoa(chain)+" "+strconv.Itoa(from))
			}
		}
	}
}

func TestWalkOffTheChainStays(t *testing.T) {
	far := []int{math.MinInt, math.MinInt + 1, -1 << 32, -16, -1, 0, 1, 15, 16, 17, 255, 256 + 15, 1<<32 - 1, 1 << 32, 1<<32 + 15, math.MaxInt - 1, math.MaxInt}
	for _, v := range values() {
		for _, from := range far {
			for _, to := range far {
				if 0 <= from && from < to && to <= 15 {
					continue
				}
				mustBe(t, wots.Walk(3, from, to, v), v, strconv.Itoa(from)+" to "+strconv.Itoa(to))
			}
		}
	}
}

// W3

func TestPublicWordForWord(t *testing.T) {
	for _, c := range []struct {
		seed string
		leaf int
		want string
	}{
		{"s", 3, "11d7a3dc4d9fac0fcf1b25fd4f690dca5ef179dfd8fa5a4944006919d1052ae1"},
		{"", 0, "30c3fb2573cb1a634edeb1fa7ce0989b84dd76a087d6aed212090be13c128db7"},
		{"", -1, "30c3fb2573cb1a634edeb1fa7ce0989b84dd76a087d6aed212090be13c128db7"},
		{"", 1<<32 + 1, "30c3fb2573cb1a634edeb1fa7ce0989b84dd76a087d6aed212090be13c128db7"},
		{"seed", 2, "e190e7ee16c09cb7b3d0d04637b3846e01887d169ef56afffbad6f6fdda5f51b"},
		{"seed", 1 << 32, "40c8351787ee4fecb5ddd07cf3eb6babcc57144353eb081252ab09cc7072afb9"},
		{strings.Repeat("\x00\xff", 50), 127, "36ee070a98b11ffd131ec8ba967b7a9cbb4570fb69b9dbeb779c8f4c448d2b89"},
	} {
		for range 2 {
			mustBe(t, wots.Public(c.seed, c.leaf), unhex(t, c.want), strconv.Quote(c.seed)+" "+strconv.Itoa(c.leaf))
		}
	}
}

func TestSignWordForWord(t *testing.T) {
	for _, c := range []struct {
		seed string
		leaf int
		msg  string
		want string
	}{
		{"s", 3, "m", "5e5d25e2ac5ff247e4021f9725ade3810ebd9fa2fa95bfa80d61727c180aed2d8ec4096e9bca25d1792f9021d5a4cebd8bb2224f0af722647b8f96ca855b2f5f" +
			"69c0218fa6d9a81fbeac8a7e68f2039a0dea1d83bde512aad18975cdc4cfcdb0570097fe16786bc8b99143f7d892ad9f0c42b13b3626d5b11901f2419176cca5" +
			"aac2441cbc8d1257b9a0f5a55c892ccfdcd5da75a5fca11ce7e2b227bb97d892"},
		{"", 0, "", "44d3499e1128d9afd9b54dbe983696212bbfc1d9af3bf5b341ccdf4e10cd855c4a56cb1e8cc8523a247b87068fb34839625de518f3968a0730b043ecb65f5feb" +
			"f0e1d13f24fcbe5747a580e2b72fd358af1559537fd11e9f3be83e4d6a54b242bd5ec7b15639fd7332b012b3aba6afd45658a1ecae843e9227b7955505340eae" +
			"6bfe9c14e30aa13f42619b6456f5569f64b746c921b0e2cd796f67617c663023"},
	} {
		for range 2 {
			mustBe(t, wots.Sign(c.seed, c.leaf, c.msg), unhex(t, c.want), strconv.Quote(c.seed))
		}
	}
}

func TestTheExample(t *testing.T) {
	public, sig := wots.Public("s", 3), wots.Sign("s", 3, "m")
	if len(wots.Digits("m")) != 10 || len(public) != 32 || len(sig) != 160 || wots.From(sig, "m") != public {
		t.Errorf("%x, %x", public, sig)
	}
}

func TestKeysAndSignaturesOfManySeedsAndLeaves(t *testing.T) {
	for _, seed := range seeds() {
		for _, leaf := range append(ordinary(), beyond()...) {
			name := strconv.Quote(seed[:min(len(seed), 20)]) + " " + strconv.Itoa(leaf)
			public, want := wots.Public(seed, leaf), refPublic(seed, leaf)
			mustBe(t, public, want, "key of "+name)
			if len(public) != 32 {
				t.Errorf("the key of %s has %d bytes", name, len(public))
			}
			for _, msg := range []string{"", "m", "82088"} {
				sig := wots.Sign(seed, leaf, msg)
				mustBe(t, sig, refSign(seed, leaf, msg), "signature of "+name)
				mustBe(t, wots.From(sig, msg), public, "key from the signature of "+name)
				if len(sig) != 160 {
					t.Errorf("a signature of %s has %d bytes", name, len(sig))
				}
			}
		}
	}
}

func TestSignaturesOfManyMessages(t *testing.T) {
	public := wots.Public("seed", 2)
	for _, msg := range append(messages(), few()...) {
		sig := wots.Sign("seed", 2, msg)
		if want := refSign("seed", 2, msg); sig != want {
			t.Fatalf("the signature of %d bytes is %x, want %x", len(msg), sig, want)
		}
		if from := wots.From(sig, msg); from != public {
			t.Fatalf("the key from the signature of %d bytes is %x", len(msg), from)
		}
	}
}

// Where a digit is 0, the signature shows the secret of the chain.
func TestSecretsAreValuesOfTags(t *testing.T) {
	for _, leaf := range []int{0, 2, 1 << 32} {
		shown := 0
		for _, msg := range append(messages(), few()...) {
			sig := wots.Sign("seed", leaf, msg)
			for chain, d := range wots.Digits(msg) {
				if d != 0 {
					continue
				}
				l, c := codec.NewWriter(), codec.NewWriter()
				l.Num(uint64(leaf))
				c.Num(uint64(chain))
				mustBe(t, sig[16*chain:][:16], sha.Tag(3, []string{"seed", l.Bytes(), c.Bytes()})[:16], "secret of the chain "+strconv.Itoa(chain))
				shown |= 1 << chain
			}
		}
		if shown != 1<<chains-1 {
			t.Errorf("the secrets shown are %b", shown)
		}
	}
}

func TestPublicIsTheTagOfTheEndsOfItsChains(t *testing.T) {
	for _, seed := range seeds() {
		for _, leaf := range []int{0, 5, 127, -1} {
			var ends []string
			for chain := range chains {
				ends = append(ends, wots.Walk(chain, 0, 15, refSecret(seed, leaf, chain)))
			}
			mustBe(t, wots.Public(seed, leaf), sha.Tag(4, ends), strconv.Quote(seed))
		}
	}
}

func TestKeysOfDifferentSeedsAndLeavesDiffer(t *testing.T) {
	publics, sigs := map[string]string{}, map[string]string{}
	for _, seed := range seeds() {
		for _, leaf := range ordinary() {
			name := strconv.Quote(seed) + " " + strconv.Itoa(leaf)
			public, sig := wots.Public(seed, leaf), wots.Sign(seed, leaf, "m")
			if other, ok := publics[public]; ok {
				t.Errorf("%s has the key of %s", name, other)
			}
			if other, ok := sigs[sig]; ok {
				t.Errorf("%s has the signature of %s", name, other)
			}
			publics[public], sigs[sig] = name, name
		}
	}
}

func TestFromOfASignatureWithAByteChanged(t *testing.T) {
	for _, msg := range []string{"m", "", "82088", "12399"} {
		public, sig := wots.Public("s", 3), wots.Sign("s", 3, msg)
		for i := range sig {
			for _, change := range []byte{1, 128, 255} {
				changed := sig[:i] + string([]byte{sig[i] ^ change}) + sig[i+1:]
				got := wots.From(changed, msg)
				mustBe(t, got, refFrom(changed, msg), "byte "+strconv.Itoa(i))
				if got == public {
					t.Errorf("a signature with the byte %d changed is taken", i)
				}
			}
		}
	}
}

func TestFromOfAnotherMessagesSignature(t *testing.T) {
	public := wots.Public("s", 3)
	for _, signed := range few() {
		sig := wots.Sign("s", 3, signed)
		for _, msg := range few() {
			got := wots.From(sig, msg)
			mustBe(t, got, refFrom(sig, msg), "signature of "+strconv.Quote(signed)+" for "+strconv.Quote(msg))
			if (got == public) != (signed == msg) {
				t.Errorf("the signature of %q for %q gives %x", signed, msg, got)
			}
		}
	}
}

func TestFromOfAnotherKeysSignature(t *testing.T) {
	public := wots.Public("s", 3)
	for _, seed := range seeds() {
		for _, leaf := range []int{0, 3, 4} {
			if got := wots.From(wots.Sign(seed, leaf, "m"), "m"); (got == public) != (seed == "s" && leaf == 3) {
				t.Errorf("the signature of the leaf %d of %q gives %x", leaf, seed, got)
			}
		}
	}
}

func TestFromOfAnyTextOf160Bytes(t *testing.T) {
	for _, msg := range few() {
		for step := range 20 {
			sig := run(160, step)
			got := wots.From(sig, msg)
			mustBe(t, got, refFrom(sig, msg), "a text with the step "+strconv.Itoa(step))
			if len(got) != 32 {
				t.Errorf("From has %d bytes", len(got))
			}
		}
	}
}

func TestFromOfASignatureWithItsPartsMoved(t *testing.T) {
	public, sig := wots.Public("s", 3), wots.Sign("s", 3, "m")
	for i := range chains {
		for j := range i {
			moved := sig[:16*j] + sig[16*i:][:16] + sig[16*(j+1):16*i] + sig[16*j:][:16] + sig[16*(i+1):]
			got := wots.From(moved, "m")
			mustBe(t, got, refFrom(moved, "m"), "parts moved")
			if len(moved) != 160 || got == public {
				t.Errorf("a signature with the parts %d and %d exchanged is taken", j, i)
			}
		}
	}
}

func TestFromOfAWrongLengthIsNothing(t *testing.T) {
	long := []int{1599, 1600, 1601, 4096, 65536, 160 + 1<<16, 160 << 8, 1 << 20, 160 + 1<<20}
	for n := range 700 {
		if n != 160 {
			long = append(long, n)
		}
	}
	for _, n := range long {
		for _, msg := range []string{"", "m"} {
			if got := wots.From(run(n, 1), msg); got != "" {
				t.Errorf("From of %d bytes = %x", n, got)
			}
		}
	}
	for _, msg := range few() {
		sig := wots.Sign("s", 3, msg)
		for _, wrong := range []string{"", sig[1:], sig[:159], sig[:144], sig + "\x00", "\x00" + sig, sig + sig, sig + sig[:16], sig[:80] + sig[81:], sig[:80] + "x" + sig[80:]} {
			for range 2 {
				if got := wots.From(wrong, msg); got != "" {
					t.Errorf("From of %d bytes = %x", len(wrong), got)
				}
			}
		}
	}
}

// W4

func TestAllSignaturesOfAKeyGiveItsPublicKey(t *testing.T) {
	for _, seed := range []string{"", "s", run(33, 5)} {
		for _, leaf := range []int{0, 127, 1 << 32, -1} {
			public := wots.Public(seed, leaf)
			for _, msg := range append(messages()[:40], few()...) {
				if got := wots.From(wots.Sign(seed, leaf, msg), msg); got != public {
					t.Errorf("the signature of %q by the leaf %d of %q gives %x", msg, leaf, seed, got)
				}
			}
		}
	}
}

// below tells whether no digit of a is greater than that of b.
func below(a, b []int) bool {
	for i := range a {
		if a[i] > b[i] {
			return false
		}
	}
	return true
}

func TestDigitsThatDifferDoSoBothWays(t *testing.T) {
	var all [][]int
	for _, msg := range append(messages()[:565], few()...) {
		all = append(all, wots.Digits(msg))
	}
	onlyByChecksum := 0
	for _, a := range all {
		for _, b := range all {
			if slices.Equal(a, b) {
				continue
			}
			if below(a, b) {
				t.Errorf("no digit of %v is greater than that of %v", a, b)
			}
			if below(a[:8], b[:8]) {
				onlyByChecksum++
			}
		}
	}
	if onlyByChecksum < 100 {
		t.Errorf("only %d pairs lean on the checksum", onlyByChecksum)
	}
}

// forge walks a message's signature on to another message's digits, wherever
// these are not behind.
func forge(sig string, from, to []int) string {
	out := ""
	for chain := range from {
		out += wots.Walk(chain, from[chain], to[chain], sig[16*chain:][:16])
	}
	return out
}

func TestNoSignatureCanBeWalkedOnToAnothersOne(t *testing.T) {
	public, all, tried := wots.Public("s", 3), messages()[:400], 0
	digits := map[string][]int{}
	for _, msg := range all {
		digits[msg] = wots.Digits(msg)
	}
	for _, signed := range all {
		sig, from := wots.Sign("s", 3, signed), digits[signed]
		for _, msg := range all {
			to := digits[msg]
			if slices.Equal(from, to) || !below(from[:8], to[:8]) {
				continue
			}
			tried++
			forged, real := forge(sig, from, to), wots.Sign("s", 3, msg)
			if forged[:128] != real[:128] {
				t.Errorf("walking on from %q does not come to what signs %q", signed, msg)
			}
			if forged == real || wots.From(forged, msg) == public {
				t.Errorf("the signature of %q was turned into that of %q", signed, msg)
			}
		}
	}
	if tried < 50 {
		t.Errorf("only %d pairs were tried", tried)
	}
}

// The promise is about digits that differ: these two messages have the same.
func TestMessagesOfTheSameDigitsHaveTheSameSignature(t *testing.T) {
	a, b := "70491", "80416"
	sig := wots.Sign("s", 3, a)
	if !slices.Equal(wots.Digits(a), wots.Digits(b)) || wots.Sign("s", 3, b) != sig || wots.From(sig, b) != wots.Public("s", 3) {
		t.Error(wots.Digits(a), wots.Digits(b))
	}
}

func TestWalkingInPartsIsWalkingAllTheWay(t *testing.T) {
	for _, v := range []string{value16, "", run(17, 3)} {
		for _, chain := range []int{0, 9, 1 << 32, -1} {
			for from := range 16 {
				for to := from; to <= 15; to++ {
					whole, steps := wots.Walk(chain, from, to, v), v
					for at := from; at <= to; at++ {
						mustBe(t, wots.Walk(chain, at, to, wots.Walk(chain, from, at, v)), whole, strconv.Itoa(from)+" "+strconv.Itoa(at)+" "+strconv.Itoa(to))
					}
					for at := from; at < to; at++ {
						steps = wots.Step(chain, at, steps)
					}
					mustBe(t, steps, whole, "step by step")
				}
			}
		}
	}
}

// No call may leave something behind that another one meets: the answers are
// the same in any order, and from several goroutines at once.
func TestCallsAreIndependent(t *testing.T) {
	type answer struct{ public, sig, from, step string }
	ask := func(i int) answer {
		seed, msg := strconv.Itoa(i), strconv.Itoa(i*7)
		sig := wots.Sign(seed, i, msg)
		return answer{wots.Public(seed, i), sig, wots.From(sig, msg), wots.Step(i, i, msg)}
	}
	var want []answer
	for i := range 20 {
		want = append(want, ask(i))
	}
	for i := 19; i >= 0; i-- {
		if ask(i) != want[i] {
			t.Errorf("the answers to %d changed", i)
		}
	}
	done := make(chan int)
	for range 8 {
		go func() {
			wrong := 0
			for i := range want {
				if ask(i) != want[i] {
					wrong++
				}
			}
			done <- wrong
		}()
	}
	for range 8 {
		if wrong := <-done; wrong > 0 {
			t.Errorf("%d answers were others in a goroutine", wrong)
		}
	}
}
