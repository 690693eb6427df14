package money_test

import (
	"math"
	"math/big"
	"regexp"
	"slices"
	"strconv"
	"strings"
	"testing"

	"contra/api"
	"contra/money"
)

// edges are amounts at which something may go wrong.
func edges() []int64 {
	return []int64{
		0, 1, -1, 2, -2, 5, 9, 10, -10, 42, 99, -99, 100, -100, 101, -1205, 1205, 12345,
		math.MaxInt32, math.MinInt32, math.MaxUint32, 1 << 62, -1 << 62, 1<<62 - 1, -1<<62 - 1,
		math.MaxInt64, math.MaxInt64 - 1, math.MaxInt64 - 7, math.MinInt64, math.MinInt64 + 1, math.MinInt64 + 8,
	}
}

// whole is what amounts are together, as a number of any size.
func whole(list ...int64) *big.Int {
	all := new(big.Int)
	for _, a := range list {
		all.Add(all, big.NewInt(a))
	}
	return all
}

// expect holds an answer against the number that it should be; if that doesn't fit, against ErrSum and nothing.
func expect(t *testing.T, call string, n int64, e api.Errno, want *big.Int) {
	t.Helper()
	if !want.IsInt64() {
		if n != 0 || e != api.ErrSum {
			t.Errorf("%s: %d, %v, but it doesn't fit", call, n, e)
		}
		return
	}
	if n != want.Int64() || e != api.OK {
		t.Errorf("%s: %d, %v; want %v", call, n, e, want)
	}
}

// P1.1
func TestAddTellsBothTogetherOrErrSum(t *testing.T) {
	for _, a := range edges() {
		for _, b := range edges() {
			n, e := money.Add(a, b)
			expect(t, "Add "+strconv.FormatInt(a, 10)+" "+strconv.FormatInt(b, 10), n, e, whole(a, b))
		}
	}
}

// P1.1
func TestNegTurnsTheSignOrErrSum(t *testing.T) {
	for _, a := range edges() {
		n, e := money.Neg(a)
		expect(t, "Neg "+strconv.FormatInt(a, 10), n, e, new(big.Int).Neg(whole(a)))
	}
}

// P1.2
func TestSumTellsAllTogetherOrErrSum(t *testing.T) {
	if n, e := money.Sum(); n != 0 || e != api.OK {
		t.Errorf("Sum of none: %d, %v", n, e)
	}
	if n, e := money.Sum([]int64{}...); n != 0 || e != api.OK {
		t.Errorf("Sum of an empty list: %d, %v", n, e)
	}
	for _, a := range edges() {
		n, e := money.Sum(a)
		expect(t, "Sum of one", n, e, whole(a))
		for _, b := range edges() {
			for _, c := range edges() {
				n, e := money.Sum(a, b, c)
				expect(t, "Sum of three", n, e, whole(a, b, c))
			}
		}
	}
}

// P1.2
func TestSumsOnTheWayDoNotCount(t *testing.T) {
	var list []int64
	for range 1000 {
		list = append(list, math.MaxInt64)
	}
	n, e := money.Sum(list...)
	expect(t, "much too much", n, e, whole(list...))
	for range 1000 {
		list = append(list, -math.MaxInt64)
	}
	list = append(list, 17)
	n, e = money.Sum(list...)
	expect(t, "up and down", n, e, big.NewInt(17))
	slices.Reverse(list)
	n, e = money.Sum(list...)
	expect(t, "down and up", n, e, big.NewInt(17))
	n, e = money.Sum(math.MinInt64, math.MinInt64)
	expect(t, "twice the least, which is 0 in 64 bits", n, e, whole(math.MinInt64, math.MinInt64))
	n, e = money.Sum(math.MinInt64, math.MinInt64, 1, math.MinInt64, math.MinInt64)
	expect(t, "four times the least", n, e, whole(math.MinInt64, math.MinInt64, 1, math.MinInt64, math.MinInt64))
}

// P1.3
func TestNearIsAsOfNumbersOfAnySize(t *testing.T) {
	for _, a := range edges() {
		for _, b := range edges() {
			apart := new(big.Int).Abs(new(big.Int).Sub(whole(a), whole(b)))
			for _, far := range edges() {
				want := far >= 0 && apart.Cmp(big.NewInt(far)) <= 0
				if money.Near(a, b, far) != want {
					t.Errorf("Near %d %d %d: not %v", a, b, far, want)
				}
			}
		}
	}
}

// P1.3
func TestNearAtTheEdge(t *testing.T) {
	for _, c := range []struct {
		a, b, far int64
		want      bool
	}{
		{10, 12, 2, true}, {12, 10, 2, true}, {10, 12, 1, false}, {12, 10, 1, false},
		{7, 7, 0, true}, {7, 8, 0, false}, {7, 7, -1, false}, {7, 7, math.MinInt64, false},
		{-1, math.MaxInt64 - 1, math.MaxInt64, true}, {-1, math.MaxInt64, math.MaxInt64, false},
		{math.MinInt64, math.MaxInt64, math.MaxInt64, false}, {math.MaxInt64, math.MinInt64, math.MaxInt64, false},
		{math.MinInt64, math.MinInt64, 0, true}, {math.MinInt64, -1, math.MaxInt64, true}, {math.MinInt64, 0, math.MaxInt64, false},
	} {
		if money.Near(c.a, c.b, c.far) != c.want {
			t.Errorf("Near %d %d %d: not %v", c.a, c.b, c.far, c.want)
		}
	}
}

// P1.4
func TestTextOfAmounts(t *testing.T) {
	for a, want := range map[int64]string{
		-1205: "-12.05", 1205: "12.05", 0: "0.00", 1: "0.01", -1: "-0.01", 9: "0.09", 10: "0.10", 99: "0.99", -99: "-0.99",
		100: "1.00", -100: "-1.00", 101: "1.01", 999: "9.99", 1000: "10.00", 100000: "1000.00", 1 << 50: "11258999068426.24",
		math.MaxInt64: "92233720368547758.07", math.MinInt64: "-92233720368547758.08", math.MinInt64 + 1: "-92233720368547758.07",
	} {
		if got := money.Text(a); got != want {
			t.Errorf("Text %d: %q, want %q", a, got, want)
		}
	}
}

// P1.4
func TestParseReadsWhatTextWrites(t *testing.T) {
	list := edges()
	for a := int64(-12000); a <= 12000; a++ {
		list = append(list, a)
	}
	for shift := range 63 {
		list = append(list, 1<<shift, 1<<shift-1, -1<<shift, -1<<shift-1)
	}
	for _, a := range list {
		if b, e := money.Parse(money.Text(a)); b != a || e != api.OK {
			t.Errorf("Parse %q: %d, %v", money.Text(a), b, e)
		}
	}
}

// P1.4
func TestParseOfWhatDoesNotFit(t *testing.T) {
	for _, s := range []string{
		"92233720368547758.08", "92233720368547758.09", "92233720368547758.10", "92233720368547759.00", "-92233720368547758.09",
		"-92233720368547758.10", "100000000000000000.00", "-100000000000000000.00", "184467440737095516.16", "184467440737095516.17",
		"-184467440737095516.16", "184467440737095517.21", "1844674407370955161.60", "368934881474191032.32",
		"1" + strings.Repeat("0", 1000) + ".00", "-" + strings.Repeat("9", 1000) + ".99",
	} {
		if n, e := money.Parse(s); n != 0 || e != api.ErrSum {
			t.Errorf("Parse %q: %d, %v", s, n, e)
		}
	}
}

// P1.4
func TestParseOfWhatIsNoText(t *testing.T) {
	long := strings.Repeat("9", 100)
	for _, s := range []string{
		"", "-", ".", "-.", "0", "1", "-1", "12", ".00", "-.05", "1.", "1.0", "1.000", "1.005", "01.00", "00.00", "-01.00", "-0.00", "-00.00",
		"+1.00", "--1.00", "1-.00", "1.-00", "1.0-", "1.00-", "1..00", "1.0.0", "1.00.", "1.00.00", "1,00", "1:00", "1/00", " 1.00", "1.00 ",
		"1.00\n", "1.00\x00", "\x001.00", "1 000.00", "0x1.00", "1e2.00", "1_0.00", "a", "1.a0", "1.0a", "a.00", "/.00", ":.00", "1.0/", "1.0:",
		"١.٠٠", "１.００", "1。00", "1.0０", "−1.00", "\xff1.00", "1\xff.00", "1.0\xff", "1.00\xff", "\xe2\x88", "€1.00",
		long, long + ".", long + ".0", long + ".000", long + "x.00", "0" + long + ".00", "-" + long, "-0" + long + ".00", long + ".00-", long + ".00.", long + "..00",
	} {
		if n, e := money.Parse(s); n != 0 || e != api.ErrForm {
			t.Errorf("Parse %q: %d, %v", s, n, e)
		}
	}
}

// P1.4
func TestParseOfAllShortTexts(t *testing.T) {
	form := regexp.MustCompile(`^-?(0|[1-9][0-9]*)\.[0-9][0-9]$`)
	texts := []string{""}
	for at := 0; at < len(texts); at++ {
		s := texts[at]
		if len(s) < 6 {
			for _, c := range "-.019 x" {
				texts = append(texts, s+string(c))
			}
		}
		wanted, want := int64(0), api.ErrForm
		if form.MatchString(s) && s != "-0.00" {
			wanted, _ = strconv.ParseInt(strings.Replace(s, ".", "", 1), 10, 64)
			want = api.OK
		}
		if n, e := money.Parse(s); n != wanted || e != want {
			t.Fatalf("Parse %q: %d, %v; want %d, %v", s, n, e, wanted, want)
		}
	}
}

// P1
func TestEveryCallEndsAtAllArguments(t *testing.T) {
	for _, a := range edges() {
		money.Neg(a)
		money.Text(a)
		for _, b := range edges() {
			money.Add(a, b)
			money.Sum(a, b)
			for _, far := range edges() {
				money.Near(a, b, far)
			}
		}
	}
	money.Sum(nil...)
	money.Sum(make([]int64, 1<<16)...)
	for r := range 256 {
		money.Parse(string([]byte{byte(r)}))
		money.Parse("1" + string([]byte{byte(r), '.', '0', '0'}))
	}
	money.Parse(strings.Repeat("7", 1<<16))
	money.Parse("1." + strings.Repeat("0", 1<<16))
	money.Parse(strings.Repeat("-", 1<<16))
}

// P2
func TestWhatIsHandedInIsNeitherChangedNorKept(t *testing.T) {
	room := []int64{3, -1, math.MaxInt64, math.MaxInt64, 7, 8, 9}
	before := slices.Clone(room)
	first, e := money.Sum(room[:2]...)
	if first != 2 || e != api.OK {
		t.Errorf("Sum: %d, %v", first, e)
	}
	if n, e := money.Sum(room[:4]...); n != 0 || e != api.ErrSum {
		t.Errorf("Sum of too much: %d, %v", n, e)
	}
	if !slices.Equal(room, before) {
		t.Errorf("Sum changed its list: %v", room)
	}
	room[0] = 4
	if n, _ := money.Sum(room[:2]...); n != 3 {
		t.Errorf("Sum kept its list: %d", n)
	}
}

// P2
func TestAnswersHangOnTheArgumentsAlone(t *testing.T) {
	for _, a := range edges() {
		s := money.Text(a)
		money.Parse("nothing")
		money.Sum(math.MaxInt64, math.MaxInt64)
		if n, e := money.Parse(s); money.Text(a) != s || n != a || e != api.OK {
			t.Errorf("another answer for %d behind refused calls", a)
		}
	}
}
