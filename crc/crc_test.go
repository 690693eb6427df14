package crc_test

import (
	"bytes"
	"hash/crc32"
	"slices"
	"testing"

	"contra/crc"
)

// pattern is n bytes of every kind, the same ones each time.
func pattern(n int) []byte {
	b := make([]byte, n)
	x := uint32(n) + 1
	for i := range b {
		x = x*1664525 + 1013904223
		b[i] = byte(x >> 24)
	}
	return b
}

// inputs are lists of bytes of many kinds.
func inputs() [][]byte {
	list := [][]byte{nil, {}, []byte("123456789"), []byte("a"), bytes.Repeat([]byte{0}, 40), bytes.Repeat([]byte{255}, 40)}
	for x := range 256 {
		list = append(list, []byte{byte(x)})
	}
	for n := range 70 {
		list = append(list, pattern(n))
	}
	return append(list, pattern(1000), pattern(1<<16))
}

// divided is the check by the division itself, a bit at a time.
func divided(b []byte) uint32 {
	var bits []int
	for _, x := range append(slices.Clone(b), 0, 0, 0, 0) {
		for i := range 8 {
			bits = append(bits, int(x>>i&1))
		}
	}
	for i := range 32 {
		bits[i] ^= 1
	}
	for i := range len(bits) - 32 {
		if bits[i] == 1 {
			for _, power := range []int{32, 26, 23, 22, 16, 12, 11, 10, 8, 7, 5, 4, 2, 1, 0} {
				bits[i+32-power] ^= 1
			}
		}
	}
	var left uint32
	for i, bit := range bits[len(bits)-32:] {
		left |= uint32(bit^1) << i
	}
	return left
}

// P3.1
func TestOfKnownBytes(t *testing.T) {
	for s, want := range map[string]uint32{
		"": 0, "123456789": 0xcbf43926, "a": 0xe8b7be43, "abc": 0x352441c2, "message digest": 0x20159d7f,
		"\x00": 0xd202ef8d, "\x00\x00\x00\x00": 0x2144df1c, "\xff\xff\xff\xff": 0xffffffff,
		"The quick brown fox jumps over the lazy dog": 0x414fa339,
	} {
		if n := crc.Of([]byte(s)); n != want {
			t.Errorf("Of %q: %x, want %x", s, n, want)
		}
	}
}

// P3.1
func TestOfIsWhatTheDivisionLeaves(t *testing.T) {
	for _, b := range inputs() {
		if len(b) > 1000 {
			continue
		}
		if n, want := crc.Of(b), divided(b); n != want {
			t.Errorf("Of %d bytes %.8x: %x, want %x", len(b), b, n, want)
		}
	}
}

// P3.1
func TestOfIsTheCheckThatOthersMake(t *testing.T) {
	for _, b := range inputs() {
		if n, want := crc.Of(b), crc32.ChecksumIEEE(b); n != want {
			t.Errorf("Of %d bytes %.8x: %x, want %x", len(b), b, n, want)
		}
	}
}

// P3.2
func TestAddGoesOnWhereTheSumIs(t *testing.T) {
	var none crc.Sum
	if n := none.Value(); n != 0 {
		t.Errorf("the zero Sum: %x", n)
	}
	if n := none.Add().Value(); n != 0 {
		t.Errorf("nothing added: %x", n)
	}
	for _, b := range inputs() {
		if len(b) > 100 {
			continue
		}
		for i := range len(b) + 1 {
			s := none.Add(b[:i]...)
			if n := s.Value(); n != crc.Of(b[:i]) {
				t.Errorf("%x: %x", b[:i], n)
			}
			if n := s.Add(b[i:]...).Value(); n != crc.Of(b) {
				t.Errorf("%x, then %x: %x, want %x", b[:i], b[i:], n, crc.Of(b))
			}
		}
		var s crc.Sum
		for _, x := range b {
			s = s.Add(x)
		}
		if n := s.Value(); n != crc.Of(b) {
			t.Errorf("%x one by one: %x, want %x", b, n, crc.Of(b))
		}
	}
}

// P3.2, P2
func TestASumStays(t *testing.T) {
	s := crc.Sum{}.Add('1', '2', '3')
	a, b := s.Add('4'), s.Add('5')
	if s.Value() != crc.Of([]byte("123")) || a.Value() != crc.Of([]byte("1234")) || b.Value() != crc.Of([]byte("1235")) {
		t.Errorf("%x, %x, %x", s.Value(), a.Value(), b.Value())
	}
	if again := s.Add('4'); again != a {
		t.Errorf("the same again: %v, %v", again, a)
	}
}

// P2
func TestBytesAreNeitherChangedNorKept(t *testing.T) {
	b := append(pattern(50), 1, 2, 3)
	handed := b[:50]
	s := crc.Sum{}.Add(handed...)
	n := crc.Of(handed)
	if !bytes.Equal(b, append(pattern(50), 1, 2, 3)) {
		t.Error("the bytes are others now")
	}
	clear(b)
	if s.Value() != n || s.Add('x').Value() != crc.Of(append(pattern(50), 'x')) {
		t.Error("the sum hangs on the bytes that were handed in")
	}
}

// P1
func TestEveryCallEndsAtAllBytes(t *testing.T) {
	for _, b := range inputs() {
		crc.Of(b)
		crc.Sum{}.Add(b...).Add(b...).Value()
	}
	crc.Sum{}.Add().Value()
}
