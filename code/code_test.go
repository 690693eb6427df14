package code_test

import (
	"bytes"
	"math"
	"math/big"
	"slices"
	"testing"

	"contra/api"
	"contra/code"
)

// high is so many bytes of 128 and above, with these behind them.
func high(n int, behind ...byte) []byte { return append(bytes.Repeat([]byte{128}, n), behind...) }

// edges are numbers at which something may go wrong.
func edges() []int64 {
	list := []int64{0, math.MaxInt64, math.MinInt64}
	for power := range 63 {
		for near := int64(-2); near <= 2; near++ {
			list = append(list, 1<<power+near, -1<<power+near)
		}
	}
	return list
}

// number is a number's bytes, as the document's words tell them.
func number(n int64) []byte {
	whole := new(big.Int).Mul(big.NewInt(n), big.NewInt(2))
	if n < 0 {
		whole.Neg(whole).Sub(whole, big.NewInt(1))
	}
	var list []byte
	for {
		digit := new(big.Int)
		whole.DivMod(whole, big.NewInt(128), digit)
		if whole.Sign() == 0 {
			return append(list, byte(digit.Int64()))
		}
		list = append(list, byte(digit.Int64())+128)
	}
}

// P4.1
func TestNumOfKnownNumbers(t *testing.T) {
	for n, want := range map[int64][]byte{
		0: {0}, -1: {1}, 1: {2}, -2: {3}, 63: {126}, -64: {127}, 64: {128, 1}, -65: {129, 1}, 100: {200, 1}, 8191: {254, 127}, -8192: {255, 127}, 8192: {128, 128, 1},
		math.MaxInt64: {254, 255, 255, 255, 255, 255, 255, 255, 255, 1}, math.MinInt64: {255, 255, 255, 255, 255, 255, 255, 255, 255, 1},
	} {
		if got := code.Num(nil, n); !bytes.Equal(got, want) {
			t.Errorf("Num %d: %v, want %v", n, got, want)
		}
	}
}

// P4.1
func TestNumWritesDigits(t *testing.T) {
	for _, n := range edges() {
		for _, ahead := range []string{"", "a", "ab\x80"} {
			want := append([]byte(ahead), number(n)...)
			if got := code.Num([]byte(ahead), n); !bytes.Equal(got, want) {
				t.Errorf("Num %q, %d: %v, want %v", ahead, n, got, want)
			}
		}
	}
}

// P4.1
func TestBoolWritesOneOrNought(t *testing.T) {
	for _, ahead := range []string{"", "\x05", "\x01\x02"} {
		if got := code.Bool([]byte(ahead), true); string(got) != ahead+"\x01" {
			t.Errorf("Bool %q, true: %v", ahead, got)
		}
		if got := code.Bool([]byte(ahead), false); string(got) != ahead+"\x00" {
			t.Errorf("Bool %q, false: %v", ahead, got)
		}
	}
}

// P4.1
func TestBytesWritesTheLengthAndTheList(t *testing.T) {
	for _, size := range []int{0, 1, 2, 63, 64, 65, 8191, 8192, code.MaxList, code.MaxList + 1, 1 << 20} {
		list := bytes.Repeat([]byte{7, 200}, size)[:size]
		for _, ahead := range []string{"", "abc"} {
			want := slices.Concat([]byte(ahead), number(int64(size)), list)
			if got := code.Bytes([]byte(ahead), list); !bytes.Equal(got, want) {
				t.Errorf("Bytes %q, %d bytes: %d bytes, %.12v", ahead, size, len(got), got)
			}
		}
	}
	if got := code.Bytes(nil, nil); !bytes.Equal(got, []byte{0}) {
		t.Errorf("Bytes of none: %v", got)
	}
}

// P4.2, P4.3
func TestWhatWasWrittenIsRead(t *testing.T) {
	var b []byte
	for i, n := range edges() {
		b = code.Bool(code.Num(b, n), i%3 == 0)
		b = code.Bytes(b, []byte("list")[:i%5])
	}
	r := code.Read(b)
	for i, n := range edges() {
		if got := r.Num(); got != n || r.Err() != api.OK {
			t.Fatalf("Num: %d, %v; want %d", got, r.Err(), n)
		}
		if got := r.Bool(); got != (i%3 == 0) || r.Err() != api.OK {
			t.Fatalf("Bool: %v, %v", got, r.Err())
		}
		if got := r.Bytes(); string(got) != "list"[:i%5] || r.Err() != api.OK {
			t.Fatalf("Bytes: %q, %v", got, r.Err())
		}
	}
	if r.Left() != 0 || r.End() != api.OK || r.Err() != api.OK {
		t.Errorf("at the end: %d left, %v", r.Left(), r.End())
	}
}

// P4.2
func TestNumRefuses(t *testing.T) {
	for _, c := range []struct {
		bytes []byte
		want  api.Errno
	}{
		{nil, api.ErrShort}, {high(1), api.ErrShort}, {high(8), api.ErrShort}, {high(9), api.ErrShort}, {[]byte{255, 255}, api.ErrShort},
		{high(9, 0), api.ErrForm}, {high(9, 2), api.ErrForm}, {high(9, 127), api.ErrForm}, {high(9, 2, 1), api.ErrForm},
		{high(10), api.ErrForm}, {high(9, 129), api.ErrForm}, {high(11), api.ErrForm}, {high(10, 1), api.ErrForm}, {high(30), api.ErrForm},
		{bytes.Repeat([]byte{255}, 10), api.ErrForm}, {bytes.Repeat([]byte{255}, 9), api.ErrShort},
		{high(1, 0), api.ErrForm}, {[]byte{255, 0}, api.ErrForm}, {high(2, 0), api.ErrForm}, {high(8, 0), api.ErrForm}, {high(1, 0, 5), api.ErrForm},
	} {
		r := code.Read(c.bytes)
		if n := r.Num(); n != 0 || r.Err() != c.want {
			t.Errorf("Num of %v: %d, %v; want %v", c.bytes, n, r.Err(), c.want)
		}
		r = code.Read(append([]byte{2}, c.bytes...))
		if n := r.Num(); n != 1 || r.Err() != api.OK {
			t.Errorf("ahead of %v: %d, %v", c.bytes, n, r.Err())
		}
		if n := r.Num(); n != 0 || r.Err() != c.want {
			t.Errorf("Num of %v behind a number: %d, %v; want %v", c.bytes, n, r.Err(), c.want)
		}
	}
}

// P4.2
func TestNumReadsEachNumberInOneWay(t *testing.T) {
	for _, c := range []struct {
		bytes []byte
		want  int64
		left  int
	}{
		{[]byte{0}, 0, 0}, {[]byte{1}, -1, 0}, {[]byte{127}, -64, 0}, {[]byte{0, 0}, 0, 1}, {high(1, 1), 64, 0}, {high(1, 1, 0), 64, 1},
		{high(8, 1), 1 << 55, 0}, {high(8, 127), 127 << 55, 0}, {high(9, 1), 1 << 62, 0}, {high(9, 1, 200), 1 << 62, 1},
	} {
		r := code.Read(c.bytes)
		if n := r.Num(); n != c.want || r.Err() != api.OK || r.Left() != c.left {
			t.Errorf("Num of %v: %d, %v, %d left; want %d, %d left", c.bytes, n, r.Err(), r.Left(), c.want, c.left)
		}
	}
}

// P4.2
func TestIntHoldsTheNumberAgainstItsBounds(t *testing.T) {
	numbers := []int{math.MinInt, -100, -2, -1, 0, 1, 2, 100, math.MaxInt}
	for _, n := range numbers {
		for _, least := range numbers {
			for _, most := range numbers {
				r := code.Read(code.Num(nil, int64(n)))
				got := r.Int(least, most)
				if least <= n && n <= most {
					if got != n || r.Err() != api.OK || r.Left() != 0 {
						t.Errorf("Int %d, %d of %d: %d, %v", least, most, n, got, r.Err())
					}
				} else if got != 0 || r.Err() != api.ErrRange {
					t.Errorf("Int %d, %d of %d: %d, %v", least, most, n, got, r.Err())
				}
			}
		}
	}
	for _, c := range []struct {
		bytes []byte
		want  api.Errno
	}{{nil, api.ErrShort}, {high(3), api.ErrShort}, {high(1, 0), api.ErrForm}, {high(10), api.ErrForm}} {
		r := code.Read(c.bytes)
		if n := r.Int(5, 9); n != 0 || r.Err() != c.want { // 0 is outside, but that isn't the first error
			t.Errorf("Int of %v: %d, %v; want %v", c.bytes, n, r.Err(), c.want)
		}
	}
}

// P4.2
func TestBoolReadsOneByte(t *testing.T) {
	for x := range 256 {
		r := code.Read([]byte{byte(x), 1})
		got := r.Bool()
		if x > 1 {
			if got || r.Err() != api.ErrForm {
				t.Errorf("Bool of %d: %v, %v", x, got, r.Err())
			}
		} else if got != (x == 1) || r.Err() != api.OK || r.Left() != 1 {
			t.Errorf("Bool of %d: %v, %v, %d left", x, got, r.Err(), r.Left())
		}
	}
	r := code.Read(nil)
	if got := r.Bool(); got || r.Err() != api.ErrShort {
		t.Errorf("Bool of none: %v, %v", got, r.Err())
	}
}

// P4.2
func TestBytesReadsAList(t *testing.T) {
	if code.MaxList != 16384 {
		t.Errorf("MaxList: %d", code.MaxList)
	}
	for _, size := range []int{0, 1, 2, 63, 64, 1000, code.MaxList - 1, code.MaxList} {
		list := bytes.Repeat([]byte{9, 200}, size)[:size]
		b := code.Bytes(nil, list)
		r := code.Read(append(b, 1, 2))
		if got := r.Bytes(); !bytes.Equal(got, list) || r.Err() != api.OK || r.Left() != 2 {
			t.Errorf("Bytes of %d: %d, %v, %d left", size, len(got), r.Err(), r.Left())
		}
		if size > 0 {
			r = code.Read(b[:len(b)-1])
			if got := r.Bytes(); len(got) != 0 || r.Err() != api.ErrShort {
				t.Errorf("Bytes of one less than %d: %v, %v", size, got, r.Err())
			}
		}
	}
}

// P4.2
func TestBytesRefuses(t *testing.T) {
	for _, c := range []struct {
		bytes []byte
		want  api.Errno
	}{
		{nil, api.ErrShort}, {high(1), api.ErrShort}, {high(1, 0), api.ErrForm}, {high(9, 2), api.ErrForm},
		{code.Num(nil, 1), api.ErrShort}, {code.Num(nil, code.MaxList), api.ErrShort},
		{code.Num(nil, -1), api.ErrRange}, {code.Num(nil, code.MaxList+1), api.ErrRange}, {code.Num(nil, math.MaxInt64), api.ErrRange}, {code.Num(nil, math.MinInt64), api.ErrRange},
		{code.Bytes(nil, make([]byte, code.MaxList+1)), api.ErrRange},
	} {
		r := code.Read(c.bytes)
		if list := r.Bytes(); len(list) != 0 || r.Err() != c.want {
			t.Errorf("Bytes of %.12v: %d bytes, %v; want %v", c.bytes, len(list), r.Err(), c.want)
		}
	}
}

// failing are readers that have an error, with it, though there is more to read.
func failing() map[*code.Reader]api.Errno {
	form := code.Read([]byte{2, 1, 2, 2, 1})
	form.Bool()
	short := code.Read([]byte{2, 8, 1, 0, 1}) // a list of four bytes, but there are three
	short.Num()
	short.Bytes()
	ranged := code.Read([]byte{2, 1, 2, 2, 1})
	ranged.Int(2, 3)
	end := code.Read([]byte{2, 1, 2, 2, 1})
	end.Num()
	end.End()
	return map[*code.Reader]api.Errno{form: api.ErrForm, short: api.ErrShort, ranged: api.ErrRange, end: api.ErrForm}
}

// P4.2, P4.3
func TestTheFirstErrorStays(t *testing.T) {
	for first := range 7 {
		for r, want := range failing() {
			for i := range 14 {
				switch (first + i) % 7 {
				case 0:
					if n := r.Num(); n != 0 {
						t.Errorf("Num: %d", n)
					}
				case 1:
					if n := r.Int(-5, 5); n != 0 {
						t.Errorf("Int: %d", n)
					}
				case 2:
					if n := r.Int(7, 9); n != 0 {
						t.Errorf("Int: %d", n)
					}
				case 3:
					if r.Bool() {
						t.Error("Bool: true")
					}
				case 4:
					if list := r.Bytes(); len(list) != 0 {
						t.Errorf("Bytes: %v", list)
					}
				case 5:
					if e := r.End(); e != want {
						t.Errorf("End: %v, want %v", e, want)
					}
				case 6:
					r.Left()
				}
				if e := r.Err(); e != want {
					t.Errorf("Err: %v, want %v", e, want)
				}
			}
		}
	}
}

// P4.3
func TestLeftTellsWhatWasNotRead(t *testing.T) {
	r := code.Read([]byte{128, 1, 1, 4, 9, 9, 6, 7})
	if r.Left() != 8 {
		t.Errorf("at first: %d", r.Left())
	}
	r.Num()
	if r.Left() != 6 {
		t.Errorf("behind Num: %d", r.Left())
	}
	r.Bool()
	if r.Left() != 5 {
		t.Errorf("behind Bool: %d", r.Left())
	}
	r.Bytes()
	if r.Left() != 2 {
		t.Errorf("behind Bytes: %d", r.Left())
	}
	r.Int(0, 3)
	if r.Left() != 1 || r.Err() != api.OK {
		t.Errorf("behind Int: %d, %v", r.Left(), r.Err())
	}
}

// P4.3
func TestEndIsAnErrorWhereBytesAreLeft(t *testing.T) {
	r := code.Read(nil)
	if r.Err() != api.OK || r.End() != api.OK || r.Err() != api.OK || r.Left() != 0 {
		t.Errorf("of none: %v", r.Err())
	}
	if r.Num(); r.Err() != api.ErrShort || r.End() != api.ErrShort { // OK isn't kept as an error is
		t.Errorf("behind the end: %v", r.Err())
	}
	r = code.Read([]byte{2, 2})
	if r.Num(); r.Err() != api.OK || r.Left() != 1 {
		t.Errorf("one is left: %v", r.Err())
	}
	if r.End() != api.ErrForm || r.Err() != api.ErrForm {
		t.Errorf("End ahead of the end: %v", r.Err())
	}
	if n := r.Num(); n != 0 || r.End() != api.ErrForm {
		t.Errorf("Num behind End: %d, %v", n, r.End())
	}
}

// P1
func TestEveryCallEndsAtAllArguments(t *testing.T) {
	lists := [][]byte{nil, {}, {0}, {1}, {127}, {128}, {255}, high(9), high(10), high(40), bytes.Repeat([]byte{255}, 40), code.Num(nil, math.MinInt64), code.Num(nil, math.MaxInt64), []byte("list")}
	for x := range 256 {
		lists = append(lists, []byte{byte(x), 128, byte(x), 1})
	}
	for _, b := range lists {
		for _, n := range []int{math.MinInt, -1, 0, 1, math.MaxInt} {
			code.Num(b, int64(n))
			for call := range 5 {
				r := code.Read(b)
				for i := range 8 {
					switch (call + i) % 5 {
					case 0:
						r.Num()
					case 1:
						r.Int(n, -n)
					case 2:
						r.Bool()
					case 3:
						r.Bytes()
					case 4:
						r.Left()
					}
				}
				r.Err()
				r.End()
			}
		}
		code.Bool(b, true)
		code.Bytes(b, b)
	}
}

// P2
func TestWritersLeaveWhatIsHandedIn(t *testing.T) {
	room := []byte{1, 2, 3, 4, 5, 6, 7, 8, 9, 10, 11, 12}
	before := bytes.Clone(room)
	b := room[:2]
	list := room[4:6]
	answers := [][]byte{code.Num(b, 5), code.Num(b, math.MinInt64), code.Bool(b, true), code.Bool(b, false), code.Bytes(b, list), code.Bytes(b, nil)}
	if !bytes.Equal(room, before) {
		t.Errorf("the spare room is %v now", room)
	}
	want := make([][]byte, len(answers))
	for i, answer := range answers {
		want[i] = bytes.Clone(answer)
	}
	clear(room)
	for i, answer := range answers {
		if !bytes.Equal(answer, want[i]) {
			t.Errorf("the answer %v hangs on what was handed in", want[i])
		}
		clear(answer[:cap(answer)])
		for j := i + 1; j < len(answers); j++ {
			if !bytes.Equal(answers[j], want[j]) {
				t.Errorf("the answers %v and %v share memory", want[i], want[j])
			}
		}
	}
	if !bytes.Equal(room, make([]byte, len(room))) {
		t.Errorf("an answer shares the memory of what was handed in: %v", room)
	}
}

// P2
func TestReadersKeepNothingThatIsHandedInOrOut(t *testing.T) {
	b := code.Bytes(code.Bytes(code.Num(nil, 700), []byte("first")), []byte("second"))
	room := append(bytes.Clone(b), 9, 9, 9)
	r := code.Read(room[:len(b)])
	if !bytes.Equal(room, append(bytes.Clone(b), 9, 9, 9)) {
		t.Error("what was handed in is another one now")
	}
	clear(room)
	if n := r.Num(); n != 700 {
		t.Errorf("Num: %d", n)
	}
	first := r.Bytes()
	if string(first) != "first" {
		t.Errorf("Bytes: %q", first)
	}
	clear(first[:cap(first)])
	second := r.Bytes()
	if string(second) != "second" || r.End() != api.OK {
		t.Errorf("Bytes: %q, %v", second, r.End())
	}
	clear(second[:cap(second)])
	if !bytes.Equal(room, make([]byte, len(room))) {
		t.Errorf("an answer shares the memory of what was handed in: %v", room)
	}
}
