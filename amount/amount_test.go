package amount_test

import (
	"math"
	"math/big"
	"strings"
	"testing"

	"voussoir/amount"
	"voussoir/api"
)

const greatest = "18446744073709551615"

// near are the numbers around each power of 2 and of 10, around what is a
// tenth and a half of the greatest, and some between.
func near() []uint64 {
	middles := []uint64{0, math.MaxUint64, math.MaxUint64 / 10, math.MaxUint64 / 100, math.MaxUint64 / 3, 0x0123456789abcdef, 9876543210987654321, 12345678901234567890}
	for i := range 64 {
		middles = append(middles, 1<<i)
	}
	for n := uint64(1); ; n *= 10 {
		middles = append(middles, n)
		if n > math.MaxUint64/10 {
			break
		}
	}
	var out []uint64
	for _, n := range middles {
		for i := range uint64(5) {
			out = append(out, n+i-2) // wraps round at the ends, on purpose
		}
	}
	return out
}

// decimal is the representation by the library's numbers without bound.
func decimal(n uint64) string { return new(big.Int).SetUint64(n).String() }

// around is the text of 2^64 + i.
func around(i int64) string {
	n := new(big.Int).Lsh(big.NewInt(1), 64)
	return n.Add(n, big.NewInt(i)).String()
}

func mustPrint(t *testing.T, n uint64, want string) {
	t.Helper()
	for range 2 {
		if got := amount.Print(n); got != want {
			t.Errorf("Print(%d) = %q, want %q", n, got, want)
		}
	}
}

func mustParse(t *testing.T, s string, want uint64) {
	t.Helper()
	for range 2 {
		if n, e := amount.Parse(s); n != want || e != api.OK {
			t.Errorf("Parse(%q) = %d, %d, want %d", s, n, e, want)
		}
	}
}

// short keeps a message readable.
func short(s string) string {
	if len(s) > 60 {
		return s[:30] + ".." + s[len(s)-30:]
	}
	return s
}

func mustNotParse(t *testing.T, s string, want api.Errno) {
	t.Helper()
	for range 2 {
		if n, e := amount.Parse(s); n != 0 || e != want {
			t.Errorf("Parse(%q) = %d, %d, want 0, %d", short(s), n, e, want)
		}
	}
}

func mustBe(t *testing.T, call string, a, b, n uint64, e api.Errno, want uint64) {
	t.Helper()
	if n != want || e != api.OK {
		t.Errorf("%s(%d, %d) = %d, %d, want %d", call, a, b, n, e, want)
	}
}

func mustBeOver(t *testing.T, call string, a, b, n uint64, e api.Errno) {
	t.Helper()
	if n != 0 || e != api.ErrAmountOver {
		t.Errorf("%s(%d, %d) = %d, %d, want 0, %d", call, a, b, n, e, api.ErrAmountOver)
	}
}

// A1

func TestTheErrorsHaveTheirNumbers(t *testing.T) {
	if api.OK != 0 || api.ErrAmountForm != 30 || api.ErrAmountOver != 31 {
		t.Error(api.OK, api.ErrAmountForm, api.ErrAmountOver)
	}
}

func TestPrintAndParseOfNumbers(t *testing.T) {
	for s, n := range map[string]uint64{
		"0": 0, "1": 1, "9": 9, "10": 10, "11": 11, "90": 90, "99": 99, "100": 100, "101": 101, "120": 120,
		"1000": 1000, "1234567890": 1234567890, "4294967295": 1<<32 - 1, "4294967296": 1 << 32,
		"9223372036854775807": math.MaxInt64, "9223372036854775808": 1 << 63,
		"9999999999999999999": 9999999999999999999, "10000000000000000000": 10000000000000000000,
		"18446744073709551609": math.MaxUint64 - 6, "18446744073709551610": math.MaxUint64 - 5,
		"18446744073709551614": math.MaxUint64 - 1, greatest: math.MaxUint64,
	} {
		mustPrint(t, n, s)
		mustParse(t, s, n)
	}
}

func TestPrintAndParseOfAllSmallNumbers(t *testing.T) {
	for n := range uint64(11000) {
		mustPrint(t, n, decimal(n))
		mustParse(t, decimal(n), n)
	}
}

func TestPrintAndParseNearTheEdges(t *testing.T) {
	for _, n := range near() {
		mustPrint(t, n, decimal(n))
		mustParse(t, decimal(n), n)
	}
}

func TestParseOfNoNumber(t *testing.T) {
	for _, s := range []string{
		"", "00", "000", "01", "007", "0120", "08", "0a", "a0", "-0", "-1", "+1", "+0", " 1", "1 ", "1\n", "\t1", "1\x00", "\x000",
		"1.", "1.0", ".5", "1e3", "0x10", "0b1", "0o7", "1_000", "1,000", "a", "abc", "ten", "-", "+", " ", "\x00", "\xff",
		"٣", "1٣", "１", "²", "½", "12é", "\u00a01", "Inf", "NaN", "nil",
		"0" + greatest, "00" + greatest, "-" + greatest, greatest + " ", "+" + greatest, greatest + ".0",
	} {
		mustNotParse(t, s, api.ErrAmountForm)
	}
}

// A byte that is no digit is found wherever it stands, the ones just below
// and just above the digits too.
func TestEachByteAtEachPlace(t *testing.T) {
	for _, s := range []string{"5", "12", "120", "98765", "1000000000000000000", greatest} {
		for place := range len(s) {
			for b := range 256 {
				changed := s[:place] + string([]byte{byte(b)}) + s[place+1:]
				number, digits := new(big.Int).SetString(changed, 10)
				switch {
				case b < 48 || b > 57:
					mustNotParse(t, changed, api.ErrAmountForm)
				case b == 48 && place == 0 && len(s) > 1:
					mustNotParse(t, changed, api.ErrAmountForm)
				case !digits:
					t.Fatalf("%q is no number", changed)
				case number.IsUint64():
					mustParse(t, changed, number.Uint64())
				default:
					mustNotParse(t, changed, api.ErrAmountOver)
				}
			}
		}
	}
}

func TestEachByteAlone(t *testing.T) {
	for b := range 256 {
		s := string([]byte{byte(b)})
		if b >= 48 && b <= 57 {
			mustParse(t, s, uint64(b-48))
		} else {
			mustNotParse(t, s, api.ErrAmountForm)
		}
	}
}

func TestParseAroundTheBound(t *testing.T) {
	for i := int64(-3000); i < 0; i++ {
		mustParse(t, around(i), math.MaxUint64-uint64(-i-1))
	}
	for i := range int64(3000) {
		mustNotParse(t, around(i), api.ErrAmountOver)
	}
}

func TestParseBeyondTheBound(t *testing.T) {
	for _, s := range []string{
		"18446744073709551616", "18446744073709551617", "18446744073709551619", "18446744073709551620",
		"18446744073709551700", "18446744073710000000", "18446744080000000000", "18500000000000000000",
		"19000000000000000000", "20000000000000000000", "28446744073709551615", "36893488147419103232", "99999999999999999999",
		"100000000000000000000", "184467440737095516150", "184467440737095516160", "340282366920938463463374607431768211456",
	} {
		mustNotParse(t, s, api.ErrAmountOver)
	}
}

// Multiples of 2^64 would be small again if the reckoning wrapped round.
func TestParseOfWhatWouldWrapRound(t *testing.T) {
	for k := range 70 {
		for _, i := range []int64{0, 1, 7, 120} {
			n := new(big.Int).Lsh(big.NewInt(1), uint(64+k))
			mustNotParse(t, n.Add(n, big.NewInt(i)).String(), api.ErrAmountOver)
		}
	}
}

func TestParseOfManyDigits(t *testing.T) {
	for _, n := range []int{20, 21, 22, 40, 64, 100, 4096, 65536, 1000000} {
		mustNotParse(t, "1"+strings.Repeat("0", n), api.ErrAmountOver)
		mustNotParse(t, strings.Repeat("9", n), api.ErrAmountOver)
		mustNotParse(t, strings.Repeat("0", n), api.ErrAmountForm)
		mustNotParse(t, strings.Repeat("0", n)+"1", api.ErrAmountForm)
	}
	for n := range 20 {
		mustParse(t, "1"+strings.Repeat("0", n), uint64(math.Pow10(n)))
	}
	for n := 2; n < 20; n++ {
		mustNotParse(t, strings.Repeat("0", n), api.ErrAmountForm)
		mustParse(t, strings.Repeat("9", n), uint64(math.Pow10(n-1))*10-1)
	}
}

// A text that is both too long and no number has the error of its form.
func TestTheFormComesFirst(t *testing.T) {
	for _, digits := range []string{"18446744073709551616", "99999999999999999999", strings.Repeat("9", 21), strings.Repeat("1", 5000)} {
		for _, bad := range []string{"x", "/", ":", "-", " ", "\x00", "\xff", "é"} {
			middle := len(digits) / 2
			for _, s := range []string{bad + digits, digits + bad, digits[:1] + bad + digits[1:], digits[:middle] + bad + digits[middle:], digits + bad + digits} {
				mustNotParse(t, s, api.ErrAmountForm)
			}
		}
		mustNotParse(t, "0"+digits, api.ErrAmountForm)
		mustNotParse(t, "00"+digits, api.ErrAmountForm)
		mustNotParse(t, digits, api.ErrAmountOver)
	}
}

// A2

func TestAdd(t *testing.T) {
	for _, c := range []struct{ a, b, want uint64 }{
		{0, 0, 0}, {0, 1, 1}, {1, 0, 1}, {1, 1, 2}, {30, 90, 120}, {math.MaxUint32, 1, 1 << 32},
		{math.MaxInt64, 1, 1 << 63}, {math.MaxInt64, math.MaxInt64, math.MaxUint64 - 1}, {1 << 63, math.MaxInt64, math.MaxUint64},
		{math.MaxUint64, 0, math.MaxUint64}, {0, math.MaxUint64, math.MaxUint64}, {math.MaxUint64 - 1, 1, math.MaxUint64},
		{3, math.MaxUint64 - 3, math.MaxUint64},
	} {
		n, e := amount.Add(c.a, c.b)
		mustBe(t, "Add", c.a, c.b, n, e, c.want)
	}
}

func TestAddBeyondTheBound(t *testing.T) {
	for _, c := range [][2]uint64{
		{1, math.MaxUint64}, {math.MaxUint64, 1}, {2, math.MaxUint64 - 1}, {math.MaxUint64 - 1, 2}, {4, math.MaxUint64 - 3},
		{1 << 63, 1 << 63}, {1<<63 + 5, 1<<63 - 4}, {math.MaxUint64, math.MaxUint64}, {math.MaxUint64, 1 << 63}, {math.MaxUint64, math.MaxUint32},
	} {
		n, e := amount.Add(c[0], c[1])
		mustBeOver(t, "Add", c[0], c[1], n, e)
	}
}

func TestSub(t *testing.T) {
	for _, c := range []struct{ a, b, want uint64 }{
		{0, 0, 0}, {1, 0, 1}, {1, 1, 0}, {120, 30, 90}, {1 << 32, 1, math.MaxUint32}, {1 << 63, 1, math.MaxInt64},
		{math.MaxUint64, 0, math.MaxUint64}, {math.MaxUint64, 1, math.MaxUint64 - 1}, {math.MaxUint64, math.MaxUint64, 0},
		{math.MaxUint64, math.MaxUint64 - 1, 1}, {math.MaxUint64, 1 << 63, math.MaxInt64}, {1<<63 + 1, 1 << 63, 1},
	} {
		n, e := amount.Sub(c.a, c.b)
		mustBe(t, "Sub", c.a, c.b, n, e, c.want)
	}
}

func TestSubBeyondTheBound(t *testing.T) {
	for _, c := range [][2]uint64{
		{0, 1}, {0, math.MaxUint64}, {1, 2}, {3, 4}, {30, 120}, {1<<63 - 1, 1 << 63}, {1, 1<<63 + 1}, {0, 1 << 63},
		{math.MaxUint32, 1 << 32}, {math.MaxUint64 - 1, math.MaxUint64}, {1 << 63, math.MaxUint64},
	} {
		n, e := amount.Sub(c[0], c[1])
		mustBeOver(t, "Sub", c[0], c[1], n, e)
	}
}

func TestAllSmallSumsAndDifferences(t *testing.T) {
	for a := range uint64(120) {
		for b := range uint64(120) {
			n, e := amount.Add(a, b)
			mustBe(t, "Add", a, b, n, e, a+b)
			n, e = amount.Sub(a, b)
			if a < b {
				mustBeOver(t, "Sub", a, b, n, e)
			} else {
				mustBe(t, "Sub", a, b, n, e, a-b)
			}
		}
	}
}

func TestSumsAndDifferencesNearTheEdges(t *testing.T) {
	for _, a := range near() {
		for _, b := range near() {
			x, y := new(big.Int).SetUint64(a), new(big.Int).SetUint64(b)
			n, e := amount.Add(a, b)
			if sum := new(big.Int).Add(x, y); sum.IsUint64() {
				mustBe(t, "Add", a, b, n, e, sum.Uint64())
			} else {
				mustBeOver(t, "Add", a, b, n, e)
			}
			n, e = amount.Sub(a, b)
			if rest := new(big.Int).Sub(x, y); rest.IsUint64() {
				mustBe(t, "Sub", a, b, n, e, rest.Uint64())
			} else {
				mustBeOver(t, "Sub", a, b, n, e)
			}
		}
	}
}

// A3

func TestParseTakesBackPrint(t *testing.T) {
	for _, n := range near() {
		mustParse(t, amount.Print(n), n)
	}
}

// Whatever Parse takes is what Print makes of the number: each number has one
// text.
func TestPrintTakesBackParse(t *testing.T) {
	texts, pieces := []string{""}, []string{"0", "1", "9", "00", "4467440737095516", "/", ":", "-"}
	taken := 0
	for level := 0; level < 4; level++ {
		var longer []string
		for _, s := range texts {
			for _, piece := range pieces {
				longer = append(longer, s+piece)
			}
		}
		texts = longer
		for _, s := range texts {
			if n, e := amount.Parse(s); e == api.OK {
				mustPrint(t, n, s)
				taken++
			} else if n != 0 {
				t.Errorf("Parse(%q) = %d, %d", s, n, e)
			}
		}
	}
	if taken < 200 {
		t.Errorf("only %d texts are numbers", taken)
	}
}

func TestAddAndSubTakeEachOtherBack(t *testing.T) {
	for _, a := range near() {
		for _, b := range near() {
			if sum, e := amount.Add(a, b); e == api.OK {
				n, e := amount.Sub(sum, b)
				mustBe(t, "Sub", sum, b, n, e, a)
			}
			if rest, e := amount.Sub(a, b); e == api.OK {
				n, e := amount.Add(rest, b)
				mustBe(t, "Add", rest, b, n, e, a)
			}
		}
	}
}

func TestTheOrderOfASumDoesNotMatter(t *testing.T) {
	for _, a := range near() {
		for _, b := range near() {
			n, e := amount.Add(a, b)
			m, f := amount.Add(b, a)
			if n != m || e != f {
				t.Errorf("Add(%d, %d) = %d, %d, and Add(%d, %d) = %d, %d", a, b, n, e, b, a, m, f)
			}
		}
	}
}
