// Package money has amounts: whole numbers of the least unit, and sums of them that fit.
package money

import (
	"math"
	"math/bits"
	"strconv"

	"contra/api"
)

// greatest is the least amount without its sign: no amount has more.
const greatest = 1 << 63

// Add: two amounts together.
func Add(a, b int64) (int64, api.Errno) { return Sum(a, b) }

// Neg: the amount with the other sign.
func Neg(a int64) (int64, api.Errno) {
	if a == math.MinInt64 {
		return 0, api.ErrSum
	}
	return -a, api.OK
}

// Sum: all amounts together, in whatever order, as long as the whole fits.
func Sum(list ...int64) (int64, api.Errno) {
	// Twice as many bits: what doesn't fit on the way may fit at the end.
	var high, low, carry uint64
	for _, a := range list {
		low, carry = bits.Add64(low, uint64(a), 0)
		high, _ = bits.Add64(high, uint64(a>>63), carry)
	}
	if high != uint64(int64(low)>>63) {
		return 0, api.ErrSum
	}
	return int64(low), api.OK
}

// Near: are two amounts at most so far apart?
func Near(a, b, far int64) bool {
	// As numbers without a sign: how far two amounts are apart need not be an amount.
	return far >= 0 && uint64(max(a, b))-uint64(min(a, b)) <= uint64(far)
}

// Text: an amount as whole units and hundredths.
func Text(a int64) string {
	sign, size := "", uint64(a)
	if a < 0 {
		sign, size = "-", -size
	}
	rest := byte(size % 100)
	return sign + strconv.FormatUint(size/100, 10) + string([]byte{'.', '0' + rest/10, '0' + rest%10})
}

// Parse: the amount of a text.
func Parse(s string) (int64, api.Errno) {
	var t text
	for i, r := range s {
		if !t.take(i, r) {
			return 0, api.ErrForm
		}
	}
	return t.amount()
}

// text is what was read of a text so far.
type text struct {
	minus, point  bool
	ahead, behind int    // how many digits stand ahead of the point, and behind it
	size          uint64 // the amount without its sign; of all that fit nowhere the same
}

// take reads what stands at i; can it stand there?
func (t *text) take(i int, r rune) bool {
	switch {
	case r == '-':
		t.minus = true
		return i == 0
	case r == '.':
		again := t.point
		t.point = true
		return t.ahead > 0 && !again
	case r >= '0' && r <= '9':
		return t.digit(uint64(r - '0'))
	}
	return false
}

// digit reads a digit; can it stand there?
func (t *text) digit(d uint64) bool {
	noughtAhead := !t.point && t.ahead == 1 && t.size == 0
	if t.point {
		t.behind++
	} else {
		t.ahead++
	}
	if t.size > greatest/10 {
		t.size = greatest + 1 // stays there, so that no text is too long to be read
	} else {
		t.size = t.size*10 + d
	}
	return !noughtAhead
}

// amount is what the whole text tells.
func (t text) amount() (int64, api.Errno) {
	switch {
	case t.behind != 2 || t.minus && t.size == 0:
		return 0, api.ErrForm
	case t.size > greatest || t.size == greatest && !t.minus:
		return 0, api.ErrSum
	case t.minus:
		return int64(-t.size), api.OK // turned ahead of the conversion: the least amount has no other sign
	}
	return int64(t.size), api.OK
}
