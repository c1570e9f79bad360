package path_test

import (
	"math"
	"math/big"
	"regexp"
	"strconv"
	"strings"
	"testing"

	"voussoir/api"
	"voussoir/path"
)

const greatest = "18446744073709551615"

// row is a row of the chapter's table: A and B stand for the numbers.
type row struct {
	kind int
	text string
}

func table() []row {
	return []row{
		{1, "clients/A/clientState"},
		{2, "clients/A/consensusStates/B"},
		{3, "connections/A"},
		{4, "channelEnds/channels/A"},
		{5, "commitments/channels/A/sequences/B"},
		{6, "receipts/channels/A/sequences/B"},
		{7, "acks/channels/A/sequences/B"},
		{8, "nextSequenceRecv/channels/A"},
	}
}

func (r row) hasB() bool { return strings.HasSuffix(r.text, "/B") }

// with is the row's string with a text in the place of each number.
func (r row) with(a, b string) string {
	out := strings.Split(r.text, "/")
	for i := range out {
		switch out[i] {
		case "A":
			out[i] = a
		case "B":
			out[i] = b
		}
	}
	return strings.Join(out, "/")
}

func decimal(n uint64) string { return new(big.Int).SetUint64(n).String() }

// numbers are those that the document names, those around each power of 2 and
// of 10, and some between.
func numbers() []uint64 {
	out := []uint64{0, 1, 2, 3, 7, 9, 10, 12, 99, 100, 120, 9876543210987654321, 12345678901234567890, math.MaxUint64 - 1, math.MaxUint64}
	for i := 1; i < 64; i++ {
		out = append(out, 1<<i-1, 1<<i, 1<<i+1)
	}
	for n := uint64(10); ; n *= 10 {
		out = append(out, n-1, n, n+1)
		if n > math.MaxUint64/10 {
			return out
		}
	}
}

// few are the numbers of paths that are changed in many ways.
func few() []uint64 { return []uint64{0, 1, 120, math.MaxUint64} }

// paths are the paths of a row with given numbers.
func (r row) paths(ns []uint64) []api.Path {
	var out []api.Path
	for _, a := range ns {
		if !r.hasB() {
			out = append(out, api.Path{Kind: r.kind, A: a})
			continue
		}
		for _, b := range ns {
			out = append(out, api.Path{Kind: r.kind, A: a, B: b})
		}
	}
	return out
}

// samples are the strings that are changed in many ways.
func samples() []string {
	var out []string
	for _, r := range table() {
		for _, p := range r.paths(few()) {
			out = append(out, r.with(decimal(p.A), decimal(p.B)))
		}
	}
	return out
}

// patterns are the rows as regular expressions.
func patterns() []*regexp.Regexp {
	var out []*regexp.Regexp
	for _, r := range table() {
		number := "(0|[1-9][0-9]*)"
		out = append(out, regexp.MustCompile(`\A(?s:`+r.with(number, number)+`)\z`))
	}
	return out
}

// reference is a second way to parse a text, by the library's means.
func reference(patterns []*regexp.Regexp, s string) (api.Path, bool) {
	for i, pattern := range patterns {
		found := pattern.FindStringSubmatch(s)
		if found == nil {
			continue
		}
		ns := []uint64{0, 0}
		for j, digits := range found[1:] {
			n, err := strconv.ParseUint(digits, 10, 64)
			if err != nil {
				return api.Path{}, false
			}
			ns[j] = n
		}
		return api.Path{Kind: i + 1, A: ns[0], B: ns[1]}, true
	}
	return api.Path{}, false
}

// short keeps a message readable.
func short(s string) string {
	if len(s) > 100 {
		return s[:50] + ".." + s[len(s)-50:]
	}
	return s
}

func mustPrint(t *testing.T, p api.Path, want string) {
	t.Helper()
	for range 2 {
		if s, e := path.Print(p); s != want || e != api.OK {
			t.Errorf("Print(%+v) = %q, %d, want %q", p, s, e, want)
		}
	}
}

func mustNotPrint(t *testing.T, p api.Path) {
	t.Helper()
	for range 2 {
		if s, e := path.Print(p); s != "" || e != api.ErrPathForm {
			t.Errorf("Print(%+v) = %q, %d, want the error %d", p, s, e, api.ErrPathForm)
		}
	}
}

func mustParse(t *testing.T, s string, want api.Path) {
	t.Helper()
	for range 2 {
		if p, e := path.Parse(s); p != want || e != api.OK {
			t.Errorf("Parse(%q) = %+v, %d, want %+v", short(s), p, e, want)
		}
	}
}

func mustNotParse(t *testing.T, s string) {
	t.Helper()
	for range 2 {
		if p, e := path.Parse(s); p != (api.Path{}) || e != api.ErrPathForm {
			t.Errorf("Parse(%q) = %+v, %d, want the error %d", short(s), p, e, api.ErrPathForm)
		}
	}
}

// mustParseAs holds Parse against the reference.
func mustParseAs(t *testing.T, patterns []*regexp.Regexp, s string) {
	t.Helper()
	if want, ok := reference(patterns, s); ok {
		mustParse(t, s, want)
		mustPrint(t, want, s)
	} else {
		mustNotParse(t, s)
	}
}

// T1

func TestTheNumbersOfKindsAndOfTheError(t *testing.T) {
	kinds := []int{api.PathClient, api.PathConsensus, api.PathConnection, api.PathChannel, api.PathCommitment, api.PathReceipt, api.PathAck, api.PathNext}
	for i, kind := range kinds {
		if kind != i+1 {
			t.Errorf("kind %d of the table is %d", i+1, kind)
		}
	}
	if api.OK != 0 || api.ErrPathForm != 40 {
		t.Error(api.OK, api.ErrPathForm)
	}
}

func TestTheTableWordForWord(t *testing.T) {
	for _, c := range []struct {
		p    api.Path
		want string
	}{
		{api.Path{Kind: 5, A: 3, B: 7}, "commitments/channels/3/sequences/7"},
		{api.Path{Kind: 1}, "clients/0/clientState"},
		{api.Path{Kind: 1, A: 1}, "clients/1/clientState"},
		{api.Path{Kind: 1, A: math.MaxUint64}, "clients/18446744073709551615/clientState"},
		{api.Path{Kind: 2}, "clients/0/consensusStates/0"},
		{api.Path{Kind: 2, A: 1}, "clients/1/consensusStates/0"},
		{api.Path{Kind: 2, B: 1}, "clients/0/consensusStates/1"},
		{api.Path{Kind: 2, A: math.MaxUint64, B: 1}, "clients/18446744073709551615/consensusStates/1"},
		{api.Path{Kind: 3}, "connections/0"},
		{api.Path{Kind: 3, A: 3}, "connections/3"},
		{api.Path{Kind: 3, A: math.MaxUint64}, "connections/18446744073709551615"},
		{api.Path{Kind: 4}, "channelEnds/channels/0"},
		{api.Path{Kind: 4, A: 1}, "channelEnds/channels/1"},
		{api.Path{Kind: 5}, "commitments/channels/0/sequences/0"},
		{api.Path{Kind: 5, A: 1, B: math.MaxUint64}, "commitments/channels/1/sequences/18446744073709551615"},
		{api.Path{Kind: 6}, "receipts/channels/0/sequences/0"},
		{api.Path{Kind: 6, A: 12, B: 34}, "receipts/channels/12/sequences/34"},
		{api.Path{Kind: 7}, "acks/channels/0/sequences/0"},
		{api.Path{Kind: 7, A: 56, B: 7}, "acks/channels/56/sequences/7"},
		{api.Path{Kind: 8}, "nextSequenceRecv/channels/0"},
		{api.Path{Kind: 8, A: 10}, "nextSequenceRecv/channels/10"},
	} {
		mustPrint(t, c.p, c.want)
		mustParse(t, c.want, c.p)
	}
}

func TestPathsOfEveryKindWithManyNumbers(t *testing.T) {
	for _, r := range table() {
		for _, p := range r.paths(numbers()) {
			s := r.with(decimal(p.A), decimal(p.B))
			mustPrint(t, p, s)
			mustParse(t, s, p)
		}
	}
}

func TestPathsOfEveryKindWithAllSmallNumbers(t *testing.T) {
	for _, r := range table() {
		for a := range uint64(120) {
			for b := range uint64(120) {
				if p := (api.Path{Kind: r.kind, A: a, B: b}); b == 0 || r.hasB() {
					mustPrint(t, p, r.with(decimal(a), decimal(b)))
				} else {
					mustNotPrint(t, p)
				}
			}
		}
	}
}

func TestPrintOfNoKind(t *testing.T) {
	kinds := []int{math.MinInt, math.MinInt + 1, math.MinInt32, math.MaxInt32, math.MaxInt - 1, math.MaxInt}
	for kind := -300; kind <= 300; kind++ {
		if kind < 1 || kind > 8 {
			kinds = append(kinds, kind)
		}
	}
	for kind := 1; kind <= 8; kind++ {
		// Such a kind would be one of the table if it were shortened.
		for _, shift := range []int{8, 16, 32, 62, 63} {
			kinds = append(kinds, kind+1<<shift, kind-1<<shift, kind|math.MinInt)
		}
	}
	for _, kind := range kinds {
		for _, n := range few() {
			mustNotPrint(t, api.Path{Kind: kind})
			mustNotPrint(t, api.Path{Kind: kind, A: n})
			mustNotPrint(t, api.Path{Kind: kind, B: n})
			mustNotPrint(t, api.Path{Kind: kind, A: n, B: n})
		}
	}
}

func TestPrintOfANumberThatTheStringDoesNotContain(t *testing.T) {
	for _, r := range table() {
		if r.hasB() {
			continue
		}
		for _, a := range few() {
			mustPrint(t, api.Path{Kind: r.kind, A: a}, r.with(decimal(a), ""))
			for _, b := range numbers() {
				if b != 0 {
					mustNotPrint(t, api.Path{Kind: r.kind, A: a, B: b})
				}
			}
		}
	}
}

// T2

func TestParseOfSingleTextsThatAreNoPath(t *testing.T) {
	for _, s := range []string{
		"", "/", "//", "////", "0", "7", " ", "\x00", "\xff", "A", "A/B", ".", "..", "a", "paths", "connection/3", "connections",
		"connections/", "connections//", "connections//3", "connections/3/", "connections/3//", "/connections/3", "//connections/3", "connections/03",
		"connections/A", "connections/x", "connections/3/4", "connections\x00/3", "connections/3\x00", "connections/3\n", " connections/3", "connections /3",
		"connections/ 3", "Connections/3", "CONNECTIONS/3", "connections3", "connections\\3", "connections/3?", "connections/3#", "connections/%33",
		"./connections/3", "connections/./3", "connections/../connections/3", "cönnections/3", "connections/٣", "connections/３", "connections∕3",
		"clients/1", "clients/1/", "clients//clientState", "clients/clientState", "clients/1/clientstate", "clients/1/clientState/", "clients/1/clientState/2",
		"clients/1/clientState/0", "clients/1/clientStates", "clients/1/consensusStates", "clients/1/consensusStates/", "clients/1/consensusState/2",
		"clients/1/2", "clients/1/2/consensusStates", "clients/1/consensusStates/2/", "clients/1/consensusStates/2/3", "clients//consensusStates/2",
		"channels/3", "channelEnds/3", "channelEnds/channels", "channelEnds/channels/", "channelEnds/channels/3/4", "channelEnds/channel/3", "channelEnds//3",
		"channelEnds/channels/3/sequences/7", "commitments/channels/3", "commitments/channels/3/sequences", "commitments/channels/3/sequences/",
		"commitments/channels//sequences/7", "commitments/channels/3/7", "commitments/3/sequences/7", "commitments/3/7", "channels/3/sequences/7",
		"commitments/channels/3/sequence/7", "commitments/channels/3/sequences/7/", "commitments/channels/3/sequences/7/8", "sequences/7",
		"commitments/ports/transfer/channels/3/sequences/7", "commitment/channels/3/sequences/7", "commitments/sequences/7/channels/3",
		"acks/channels/1", "ack/channels/1/sequences/2", "receipts/channels/1", "nextSequenceRecv/channels", "nextSequenceRecv/channels/",
		"nextSequenceRecv/channels/9/sequences/1", "nextSequenceSend/channels/9", "nextSequenceRecv/9", "nextsequencerecv/channels/9",
		"connections/3connections/3", "connections/3/connections/3", "connections/3 connections/3", "connections/3\nconnections/4", "1/connections/3",
	} {
		mustNotParse(t, s)
	}
}

// Numbers that are none, or have another text, or are too great, in the place
// of each number of each string.
func TestParseOfNumbersThatAreNone(t *testing.T) {
	bad := []string{
		"", "00", "01", "007", "03", "000", "-1", "-0", "+1", "+0", " 1", "1 ", "1.0", "1e3", "0x1", "1_0", "1,000", "a", "A", "B", "x1", "1x",
		"-", "+", " ", "\x00", "1\x00", "\xff", "٣", "１", "²", "1/", "/1", "/", "nil", "NaN",
		"18446744073709551616", "18446744073709551617", "18446744073709551620", "20000000000000000000", "99999999999999999999",
		"184467440737095516150", "36893488147419103232", "36893488147419103233", "340282366920938463463374607431768211457",
		"0" + greatest, greatest + "0", "-" + greatest, "+" + greatest, "00", strings.Repeat("0", 30), strings.Repeat("9", 30),
	}
	for _, r := range table() {
		for _, n := range bad {
			mustNotParse(t, r.with(n, "0"))
			mustNotParse(t, r.with(n, "7"))
			mustNotParse(t, r.with(n, n))
			if r.hasB() {
				mustNotParse(t, r.with("0", n))
				mustNotParse(t, r.with("7", n))
			}
		}
	}
}

func TestStringsCutOff(t *testing.T) {
	patterns := patterns()
	for _, s := range samples() {
		for i := range len(s) {
			mustParseAs(t, patterns, s[:i])
			mustParseAs(t, patterns, s[i:])
		}
	}
	for _, r := range table() {
		s := r.with("3", "7")
		for i := range len(s) {
			mustNotParse(t, s[:i])
			if i > 0 {
				mustNotParse(t, s[i:])
			}
		}
	}
}

func TestStringsWithAByteMore(t *testing.T) {
	patterns := patterns()
	for _, s := range samples() {
		for i := 0; i <= len(s); i++ {
			for b := range 256 {
				mustParseAs(t, patterns, s[:i]+string([]byte{byte(b)})+s[i:])
			}
		}
	}
}

func TestStringsWithAByteChangedOrLost(t *testing.T) {
	patterns := patterns()
	for _, s := range samples() {
		for i := range len(s) {
			mustParseAs(t, patterns, s[:i]+s[i+1:])
			for b := range 256 {
				mustParseAs(t, patterns, s[:i]+string([]byte{byte(b)})+s[i+1:])
			}
		}
	}
}

// Nothing but the digits of a number can be exchanged for something else.
func TestOnlyDigitsCanChange(t *testing.T) {
	for _, r := range table() {
		s := r.with("3", "7")
		for i := range len(s) {
			for b := range 256 {
				changed := s[:i] + string([]byte{byte(b)}) + s[i+1:]
				digits := strings.ContainsRune("0123456789", rune(b)) && (s[i] == '3' || s[i] == '7')
				if changed != s && !digits {
					mustNotParse(t, changed)
				}
			}
		}
	}
}

// All texts of up to five elements out of the words of the table, and of one
// kind's words with another kind's end.
func TestAllSequencesOfElements(t *testing.T) {
	taken := map[string]api.Path{}
	for _, r := range table() {
		for _, p := range r.paths([]uint64{0, 7}) {
			taken[r.with(decimal(p.A), decimal(p.B))] = p
		}
	}
	words := []string{"clients", "clientState", "consensusStates", "connections", "channelEnds", "channels", "commitments", "sequences", "receipts", "acks", "nextSequenceRecv", "0", "7", ""}
	texts, found := append([]string{}, words...), 0
	for range 5 {
		var longer []string
		for _, s := range texts {
			p, e := path.Parse(s)
			want, ok := taken[s]
			if p != want || (e == api.OK) != ok || !ok && e != api.ErrPathForm {
				t.Errorf("Parse(%q) = %+v, %d, want %+v", s, p, e, want)
			}
			if ok {
				found++
			}
			for _, word := range words {
				longer = append(longer, s+"/"+word)
			}
		}
		texts = longer
	}
	if found != len(taken) || found != 4*4+4*2 {
		t.Errorf("%d of %d paths were found", found, len(taken))
	}
}

func TestOneKindsWordsWithAnotherKindsEnd(t *testing.T) {
	patterns := patterns()
	all := samples()
	for _, s := range all {
		for _, other := range all {
			mustParseAs(t, patterns, s+other)
			mustParseAs(t, patterns, s+"/"+other)
			front, back := strings.Split(s, "/"), strings.Split(other, "/")
			for i := 1; i < len(front); i++ {
				for j := 1; j < len(back); j++ {
					mustParseAs(t, patterns, strings.Join(append(append([]string{}, front[:i]...), back[j:]...), "/"))
				}
			}
		}
	}
}

func TestParseOfLongTexts(t *testing.T) {
	for _, n := range []int{21, 100, 4096, 65536, 1000000} {
		mustNotParse(t, strings.Repeat("/", n))
		mustNotParse(t, strings.Repeat("7", n))
		mustNotParse(t, strings.Repeat("connections/", n))
		mustNotParse(t, "connections"+strings.Repeat("/3", n))
		mustNotParse(t, "connections/"+strings.Repeat("0", n))
		mustNotParse(t, "connections/"+strings.Repeat("0", n)+"3")
		mustNotParse(t, "connections/1"+strings.Repeat("0", n))
		mustNotParse(t, "connections/3"+strings.Repeat("/", n))
		mustNotParse(t, strings.Repeat("/", n)+"connections/3")
		mustNotParse(t, "clients/1"+strings.Repeat("0", n)+"/clientState")
		mustNotParse(t, "acks/channels/1/sequences/"+strings.Repeat("9", n))
		mustNotParse(t, "acks/channels/"+strings.Repeat("9", n)+"/sequences/1")
	}
}

// T3

func TestParseTakesBackPrint(t *testing.T) {
	for kind := -2; kind <= 11; kind++ {
		for _, a := range numbers() {
			for _, b := range []uint64{0, 1, a, math.MaxUint64} {
				p := api.Path{Kind: kind, A: a, B: b}
				if s, e := path.Print(p); e == api.OK {
					mustParse(t, s, p)
				}
			}
		}
	}
}

func TestPrintTakesBackParse(t *testing.T) {
	taken := 0
	for _, s := range samples() {
		for i := 0; i <= len(s); i++ {
			for _, piece := range []string{"", "0", "1", "9", "/", "/0", "0/", "s", "-"} {
				changed := s[:i] + piece + s[i:]
				if p, e := path.Parse(changed); e == api.OK {
					mustPrint(t, p, changed)
					taken++
				}
			}
		}
	}
	if taken < 1000 {
		t.Errorf("only %d texts are paths", taken)
	}
}

func TestDifferentPathsHaveDifferentStrings(t *testing.T) {
	seen := map[string]api.Path{}
	for kind := range 10 {
		for _, a := range numbers() {
			for _, b := range numbers() {
				p := api.Path{Kind: kind, A: a, B: b}
				s, e := path.Print(p)
				if e != api.OK {
					continue
				}
				if q, ok := seen[s]; ok && q != p {
					t.Errorf("Print(%+v) and Print(%+v) = %q", p, q, s)
				}
				seen[s] = p
			}
		}
	}
}

func TestPrintAndParseChangeNothing(t *testing.T) {
	p := api.Path{Kind: 5, A: 3, B: 7}
	for _, q := range []api.Path{{}, {Kind: 2, A: 1, B: 2}, {Kind: 9}, {Kind: 3, B: 1}} {
		path.Print(q)
		path.Parse("connections/03")
		path.Parse("acks/channels/5/sequences/6")
		mustPrint(t, p, "commitments/channels/3/sequences/7")
		mustParse(t, "commitments/channels/3/sequences/7", p)
	}
	if p != (api.Path{Kind: 5, A: 3, B: 7}) {
		t.Error(p)
	}
}
