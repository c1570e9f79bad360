package codec_test

import (
	"encoding/binary"
	"math"
	"strings"
	"testing"
	"unsafe"

	"voussoir/codec"
)

// value is a number, or a text if isText.
type value struct {
	isText bool
	num    uint64
	text   string
}

func num(n uint64) value  { return value{num: n} }
func text(s string) value { return value{isText: true, text: s} }

// every is a text that has all bytes, and is no UTF-8.
func every() string {
	out := make([]byte, 256)
	for i := range out {
		out[i] = byte(i)
	}
	return string(out)
}

// sequences are values that are written one behind the other.
func sequences() [][]value {
	return [][]value{
		{},
		{num(0)}, {num(1)}, {num(255)}, {num(256)}, {num(258)}, {num(1 << 63)}, {num(math.MaxUint64)},
		{num(0x0123456789abcdef)},
		{text("")}, {text("a")}, {text("\x00")}, {text("\xff\xfe")}, {text(every())},
		{num(258), text("ab")},
		{text("ab"), num(258)},
		{num(1), num(2), num(3)},
		{text("a"), text("b"), text("c")},
		{text(""), text(""), text("")},
		{num(0), text(""), num(0), text(""), num(math.MaxUint64), text("")},
		{text("\x00\x00\x00\x01a"), text("\x00\x00\x00\x00\x00\x00\x00\x00"), num(7)},
		{num(math.MaxUint64), text(strings.Repeat("x", 255)), text(strings.Repeat("y", 256)), num(1)},
	}
}

func write(values []value) string {
	w := codec.NewWriter()
	for _, v := range values {
		if v.isText {
			w.Text(v.text)
		} else {
			w.Num(v.num)
		}
	}
	return w.Bytes()
}

// expected is the encoding by the library's means.
func expected(values []value) string {
	var out []byte
	for _, v := range values {
		if v.isText {
			out = binary.BigEndian.AppendUint32(out, uint32(len(v.text)))
			out = append(out, v.text...)
		} else {
			out = binary.BigEndian.AppendUint64(out, v.num)
		}
	}
	return string(out)
}

// mustHaveFailed calls all of a Reader twice, in different orders.
func mustHaveFailed(t *testing.T, what string, r *codec.Reader) {
	t.Helper()
	for range 2 {
		if !r.Bad() || r.End() {
			t.Errorf("%s: Bad() = %v, End() = %v", what, r.Bad(), r.End())
		}
		if n := r.Num(); n != 0 {
			t.Errorf("%s: Num() = %d", what, n)
		}
		for _, most := range []int{math.MinInt, -1, 0, 1, 100, math.MaxInt} {
			if s := r.Text(most); s != "" {
				t.Errorf("%s: Text(%d) = %q", what, most, s)
			}
		}
		if !r.Bad() || r.End() {
			t.Errorf("%s: afterwards Bad() = %v, End() = %v", what, r.Bad(), r.End())
		}
	}
}

// mustGoOn tells a Reader that has not failed, whether or not it is at the end.
func mustGoOn(t *testing.T, what string, r *codec.Reader, end bool) {
	t.Helper()
	for range 2 {
		if r.Bad() || r.End() != end {
			t.Errorf("%s: Bad() = %v, End() = %v, want End() = %v", what, r.Bad(), r.End(), end)
		}
	}
}

// C1

func TestNothingWritten(t *testing.T) {
	w := codec.NewWriter()
	if w == nil {
		t.Fatal("NewWriter() = nil")
	}
	for range 2 {
		if got := w.Bytes(); got != "" {
			t.Errorf("Bytes() = %q", got)
		}
	}
}

func TestWriterOfTheExample(t *testing.T) {
	w := codec.NewWriter()
	w.Num(258)
	w.Text("ab")
	want := string([]byte{0, 0, 0, 0, 0, 0, 1, 2, 0, 0, 0, 2, 97, 98})
	if got := w.Bytes(); got != want {
		t.Errorf("Bytes() = %q, want %q", got, want)
	}
}

func TestNumIsEightBytes(t *testing.T) {
	for _, c := range []struct {
		n    uint64
		want string
	}{
		{0, "\x00\x00\x00\x00\x00\x00\x00\x00"},
		{1, "\x00\x00\x00\x00\x00\x00\x00\x01"},
		{0x0123456789abcdef, "\x01\x23\x45\x67\x89\xab\xcd\xef"},
		{1 << 32, "\x00\x00\x00\x01\x00\x00\x00\x00"},
		{1 << 63, "\x80\x00\x00\x00\x00\x00\x00\x00"},
		{math.MaxInt64, "\x7f\xff\xff\xff\xff\xff\xff\xff"},
		{math.MaxUint64, "\xff\xff\xff\xff\xff\xff\xff\xff"},
	} {
		if got := write([]value{num(c.n)}); got != c.want {
			t.Errorf("Num(%d) writes %q, want %q", c.n, got, c.want)
		}
	}
}

func TestTextIsBehindItsLength(t *testing.T) {
	for _, c := range []struct {
		n      int
		length string
	}{
		{0, "\x00\x00\x00\x00"}, {1, "\x00\x00\x00\x01"}, {255, "\x00\x00\x00\xff"}, {256, "\x00\x00\x01\x00"},
		{65535, "\x00\x00\xff\xff"}, {65536 + 2, "\x00\x01\x00\x02"}, {1<<24 + 3, "\x01\x00\x00\x03"},
	} {
		s := strings.Repeat("z", c.n)
		if got := write([]value{text(s)}); got != c.length+s {
			t.Errorf("Text of %d bytes writes %d bytes that begin with %q", c.n, len(got), got[:4])
		}
	}
}

func TestLengthsCountBytes(t *testing.T) {
	if got := write([]value{text("é")}); got != "\x00\x00\x00\x02\xc3\xa9" {
		t.Errorf("%q", got)
	}
	if got := write([]value{text("\xff\x00\xfe")}); got != "\x00\x00\x00\x03\xff\x00\xfe" {
		t.Errorf("%q", got)
	}
}

func TestValuesStandOneBehindTheOther(t *testing.T) {
	for _, values := range sequences() {
		if got, want := write(values), expected(values); got != want {
			t.Errorf("%v: %q, want %q", values, got, want)
		}
	}
}

func TestBytesIsAllWrittenSoFar(t *testing.T) {
	for _, values := range sequences() {
		w := codec.NewWriter()
		var seen []string
		for i, v := range values {
			seen = append(seen, w.Bytes())
			if v.isText {
				w.Text(v.text)
			} else {
				w.Num(v.num)
			}
			if got, want := w.Bytes(), expected(values[:i+1]); got != want || w.Bytes() != want {
				t.Errorf("%v: after %d values %q, want %q", values, i+1, got, want)
			}
		}
		for i, got := range seen {
			if want := expected(values[:i]); got != want {
				t.Errorf("%v: what was told after %d values became %q", values, i, got)
			}
		}
	}
}

func TestManyValues(t *testing.T) {
	w := codec.NewWriter()
	for i := range 20000 {
		w.Num(uint64(i))
		w.Text("t")
	}
	r := codec.NewReader(w.Bytes())
	for i := range 20000 {
		if n, s := r.Num(), r.Text(1); n != uint64(i) || s != "t" {
			t.Fatalf("value %d: %d and %q", i, n, s)
		}
	}
	mustGoOn(t, "many", r, true)
}

func TestWritersAreIndependent(t *testing.T) {
	a, b := codec.NewWriter(), codec.NewWriter()
	a.Num(1)
	if got := b.Bytes(); got != "" {
		t.Errorf("the second has %q", got)
	}
	b.Text("b")
	a.Text("a")
	b.Num(2)
	if got := a.Bytes(); got != expected([]value{num(1), text("a")}) {
		t.Errorf("the first has %q", got)
	}
	if got := b.Bytes(); got != expected([]value{text("b"), num(2)}) {
		t.Errorf("the second has %q", got)
	}
	if got := codec.NewWriter().Bytes(); got != "" {
		t.Errorf("a third has %q", got)
	}
}

// C2

func TestReaderOfTheEmptyText(t *testing.T) {
	mustGoOn(t, "no call", codec.NewReader(""), true)
	r := codec.NewReader("")
	if got := r.Num(); got != 0 {
		t.Errorf("Num() = %d", got)
	}
	mustHaveFailed(t, "Num", r)
	for _, most := range []int{math.MinInt, -1, 0, 1, math.MaxInt} {
		r := codec.NewReader("")
		if got := r.Text(most); got != "" {
			t.Errorf("Text(%d) = %q", most, got)
		}
		mustHaveFailed(t, "Text", r)
	}
}

func TestReaderOfNumbers(t *testing.T) {
	for _, n := range []uint64{0, 1, 258, 0x0123456789abcdef, 1 << 63, math.MaxInt64, math.MaxUint64} {
		r := codec.NewReader(expected([]value{num(n)}))
		mustGoOn(t, "before", r, false)
		if got := r.Num(); got != n {
			t.Errorf("Num() = %d, want %d", got, n)
		}
		mustGoOn(t, "after", r, true)
		if got := r.Num(); got != 0 {
			t.Errorf("behind the end Num() = %d", got)
		}
		mustHaveFailed(t, "behind the end", r)
	}
}

func TestNumOfTooFewBytes(t *testing.T) {
	for n := range 8 {
		r := codec.NewReader(strings.Repeat("\xff", n))
		if got := r.Num(); got != 0 {
			t.Errorf("Num() of %d bytes = %d", n, got)
		}
		mustHaveFailed(t, "too few", r)
	}
}

func TestNumTakesEightBytesOnly(t *testing.T) {
	r := codec.NewReader("\x00\x00\x00\x00\x00\x00\x00\x05\x09")
	if got := r.Num(); got != 5 {
		t.Errorf("Num() = %d", got)
	}
	mustGoOn(t, "a byte is left", r, false)
	if got := r.Num(); got != 0 {
		t.Errorf("Num() of a byte = %d", got)
	}
	mustHaveFailed(t, "a byte was left", r)
}

func TestTextUpToMost(t *testing.T) {
	for _, n := range []int{0, 1, 2, 3, 255, 256, 65536 + 2} {
		s := strings.Repeat("\xf0", n)
		input := expected([]value{text(s)})
		for _, most := range []int{n, n + 1, n + 1000, math.MaxInt32, math.MaxInt} {
			r := codec.NewReader(input)
			if got := r.Text(most); got != s {
				t.Errorf("Text(%d) of %d bytes has %d bytes", most, n, len(got))
			}
			mustGoOn(t, "up to most", r, true)
		}
		for _, most := range []int{n - 1, -1, -n - 1, math.MinInt32, math.MinInt} {
			r := codec.NewReader(input)
			if got := r.Text(most); got != "" {
				t.Errorf("Text(%d) of %d bytes = %q", most, n, got)
			}
			mustHaveFailed(t, "beyond most", r)
		}
	}
}

func TestMostOfZeroAndBelow(t *testing.T) {
	empty := expected([]value{text("")})
	r := codec.NewReader(empty)
	if got := r.Text(0); got != "" {
		t.Errorf("Text(0) = %q", got)
	}
	mustGoOn(t, "the empty text and 0", r, true)
	for _, most := range []int{-1, math.MinInt} {
		r := codec.NewReader(empty + empty)
		if got := r.Text(most); got != "" {
			t.Errorf("Text(%d) = %q", most, got)
		}
		mustHaveFailed(t, "the empty text and less than 0", r)
	}
	r = codec.NewReader(expected([]value{text("a")}))
	if got := r.Text(0); got != "" {
		t.Errorf("Text(0) = %q", got)
	}
	mustHaveFailed(t, "a text and 0", r)
}

func TestTextThatIsCutOff(t *testing.T) {
	for _, input := range []string{
		"\x00", "\x00\x00", "\x00\x00\x00", "\xff\xff\xff",
		"\x00\x00\x00\x01", "\x00\x00\x00\x02a", "\x00\x00\x00\x03ab", "\x00\x00\x00\x06ab",
		"\x00\x00\x01\x00abc", "\x00\x01\x00\x00abc", "\x01\x00\x00\x00abc",
		"\x7f\xff\xff\xffab", "\x80\x00\x00\x00ab", "\xff\xff\xff\xffab", "\xff\xff\xff\xff",
	} {
		for _, most := range []int{-1, 0, 1, 2, 100, math.MaxInt32, math.MaxUint32, math.MaxInt} {
			r := codec.NewReader(input)
			if got := r.Text(most); got != "" {
				t.Errorf("Text(%d) of %q = %q", most, input, got)
			}
			mustHaveFailed(t, "cut off", r)
		}
	}
}

func TestTextTakesItsBytesOnly(t *testing.T) {
	r := codec.NewReader("\x00\x00\x00\x01abc")
	if got := r.Text(3); got != "a" {
		t.Errorf("Text(3) = %q", got)
	}
	mustGoOn(t, "two bytes are left", r, false)
	if got := r.Text(3); got != "" {
		t.Errorf("Text(3) of two bytes = %q", got)
	}
	mustHaveFailed(t, "two bytes were left", r)
}

func TestBytesBehindTheLastValue(t *testing.T) {
	for _, values := range sequences() {
		for _, more := range []string{"\x00", "\x00\x00\x00\x00", "a", "\x00\x00\x00\x00\x00\x00\x00\x00\x00"} {
			r := codec.NewReader(expected(values) + more)
			mustReadBack(t, r, values)
			mustGoOn(t, "bytes behind", r, false)
		}
	}
}

// What follows would be right, if the Reader had not failed before.
func TestAFailedReaderReadsNothing(t *testing.T) {
	for _, c := range []struct {
		what, input string
		fail        func(r *codec.Reader)
	}{
		{"a text of seven bytes for a number", "\x00\x00\x00\x03abc", func(r *codec.Reader) { r.Num() }},
		{"the empty text for a number", "\x00\x00\x00\x00", func(r *codec.Reader) { r.Num() }},
		{"above most", "\x00\x00\x00\x02ab\x00\x00\x00\x00\x00\x00\x00\x07\x00\x00\x00\x01c", func(r *codec.Reader) { r.Text(1) }},
		{"above most, and a value behind the length", "\x00\x00\x00\x09\x00\x00\x00\x01c\x00\x00\x00\x00", func(r *codec.Reader) { r.Text(8) }},
		{"most below 0", "\x00\x00\x00\x00\x00\x00\x00\x01c", func(r *codec.Reader) { r.Text(-1) }},
		{"beyond the bytes", "\x00\x00\x00\x09\x00\x00\x00\x01cdef", func(r *codec.Reader) { r.Text(100) }},
		{"behind the end", "\x00\x00\x00\x00", func(r *codec.Reader) { r.Text(0); r.Text(0) }},
		{"behind a number", "\x00\x00\x00\x00\x00\x00\x00\x07", func(r *codec.Reader) { r.Num(); r.Num() }},
	} {
		r := codec.NewReader(c.input)
		c.fail(r)
		mustHaveFailed(t, c.what, r)
		r = codec.NewReader(c.input)
		c.fail(r)
		for _, most := range []int{2, 3, 100} {
			if got := r.Text(most); got != "" {
				t.Errorf("%s: Text(%d) = %q", c.what, most, got)
			}
		}
		if got := r.Num(); got != 0 {
			t.Errorf("%s: Num() = %d", c.what, got)
		}
		if !r.Bad() || r.End() {
			t.Errorf("%s: Bad() = %v, End() = %v", c.what, r.Bad(), r.End())
		}
	}
}

func TestReadersAreIndependent(t *testing.T) {
	input := expected([]value{num(1), text("ab"), num(2)})
	a, b, c := codec.NewReader(input), codec.NewReader(input), codec.NewReader(input)
	if got := a.Num(); got != 1 {
		t.Errorf("the first: %d", got)
	}
	if got := b.Text(-1); got != "" || !b.Bad() {
		t.Errorf("the second: %q", got)
	}
	if got := b.Text(0) + b.Text(100); got != "" || !b.Bad() {
		t.Errorf("the second: %q", got)
	}
	if got := a.Text(2); got != "ab" || a.Bad() {
		t.Errorf("the first: %q", got)
	}
	mustReadBack(t, c, []value{num(1), text("ab"), num(2)})
	mustGoOn(t, "the third", c, true)
	if got := a.Num(); got != 2 || !a.End() {
		t.Errorf("the first: %d", got)
	}
	mustHaveFailed(t, "the second", b)
}

func TestAReaderIsIndependentOfTheWriter(t *testing.T) {
	w := codec.NewWriter()
	w.Text("ab")
	r := codec.NewReader(w.Bytes())
	w.Num(7)
	if got := r.Text(2); got != "ab" {
		t.Errorf("Text(2) = %q", got)
	}
	mustGoOn(t, "the writer went on", r, true)
}

func TestATextSharesNoMemoryWithTheInput(t *testing.T) {
	input := expected([]value{text("abc")})
	got := codec.NewReader(input).Text(3)
	if unsafe.StringData(got) == unsafe.StringData(input[4:]) {
		t.Error("the text is a part of the input")
	}
}

// C3

func mustReadBack(t *testing.T, r *codec.Reader, values []value) {
	t.Helper()
	for i, v := range values {
		if v.isText {
			if got := r.Text(len(v.text)); got != v.text {
				t.Errorf("%v: value %d is read as %q", values, i, got)
			}
		} else if got := r.Num(); got != v.num {
			t.Errorf("%v: value %d is read as %d", values, i, got)
		}
	}
}

func TestWhatWasWrittenIsReadBack(t *testing.T) {
	for _, values := range sequences() {
		r := codec.NewReader(write(values))
		mustGoOn(t, "before", r, len(values) == 0)
		mustReadBack(t, r, values)
		mustGoOn(t, "after", r, true)
	}
}

// mustStopShort reads the values of an input that was cut off.
func mustStopShort(t *testing.T, cut int, input string, values []value) {
	t.Helper()
	r := codec.NewReader(input[:cut])
	for i, v := range values {
		whole := len(expected(values[:i+1])) <= cut
		var got value
		if v.isText {
			got = text(r.Text(math.MaxInt))
		} else {
			got = num(r.Num())
		}
		want := value{isText: v.isText}
		if whole {
			want = v
		}
		if got != want || r.Bad() == whole {
			t.Fatalf("%v, cut off at %d: value %d is read as %v, Bad() = %v", values, cut, i, got, r.Bad())
		}
	}
	mustHaveFailed(t, "cut off", r)
}

func TestAnInputThatIsCutOff(t *testing.T) {
	for _, values := range sequences() {
		input := expected(values)
		for cut := range len(input) {
			mustStopShort(t, cut, input, values)
		}
	}
}

// inputs are all texts of up to most pieces.
func inputs(most int) []string {
	pieces := []string{
		"\x00", "a", "\xff\xff\xff\xff",
		"\x00\x00\x00\x00", "\x00\x00\x00\x01", "\x00\x00\x00\x04", "\x00\x00\x00\x09",
	}
	out, last := []string{""}, []string{""}
	for range most {
		var longer []string
		for _, s := range last {
			for _, piece := range pieces {
				longer = append(longer, s+piece)
			}
		}
		out, last = append(out, longer...), longer
	}
	return out
}

// readAll makes the calls that a number tells by its digits, and writes what they read.
func readAll(input string, calls int) (end bool, written string) {
	r := codec.NewReader(input)
	w := codec.NewWriter()
	for ; calls > 0; calls /= 5 {
		switch calls % 5 {
		case 0, 1:
			w.Num(r.Num())
		case 2:
			w.Text(r.Text(0))
		case 3:
			w.Text(r.Text(4))
		case 4:
			w.Text(r.Text(math.MaxInt))
		}
	}
	return r.End(), w.Bytes()
}

func TestWhatWasReadWritesTheInput(t *testing.T) {
	ends := 0
	for _, input := range inputs(4) {
		for calls := range 5 * 5 * 5 {
			end, written := readAll(input, calls)
			if end && written != input {
				t.Errorf("calls %d: %q is written as %q", calls, input, written)
			}
			if end && input != "" {
				ends++
			}
		}
	}
	if ends < 50 {
		t.Errorf("only %d reads came to the end", ends)
	}
}

func TestOneEncodingOfEachSequence(t *testing.T) {
	seen := map[string]int{}
	for i, values := range [][]value{
		{}, {text("")}, {text(""), text("")}, {text("a")}, {text("a"), text("")}, {text(""), text("a")},
		{text("a"), text("b")}, {text("ab")}, {text("ba")}, {text("b"), text("a")}, {num(1)}, {num(1), num(1)},
	} {
		s := write(values)
		if other, ok := seen[s]; ok {
			t.Errorf("sequences %d and %d are both %q", other, i, s)
		}
		seen[s] = i
	}
}
