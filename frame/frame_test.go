package frame_test

import (
	"bytes"
	"encoding/binary"
	"hash/crc32"
	"slices"
	"testing"

	"contra/api"
	"contra/frame"
)

// pattern is n bytes of every kind, the same ones each time.
func pattern(n int) []byte {
	b := make([]byte, n)
	x := uint32(n) + 1
	for i := range b {
		x = x*1664525 + 1013904223
		b[i] = byte(x >> 24)
	}
	return b
}

// record is some data's record, as the document's words tell it.
func record(data []byte) []byte {
	b := binary.BigEndian.AppendUint32(nil, uint32(len(data)))
	b = binary.BigEndian.AppendUint32(b, crc32.ChecksumIEEE(data))
	return append(b, data...)
}

// head is the beginning of a record that would have so many bytes, with a check.
func head(size, check uint32) []byte {
	return binary.BigEndian.AppendUint32(binary.BigEndian.AppendUint32(nil, size), check)
}

// sizes are numbers of bytes that a record may have.
func sizes() []int {
	return []int{0, 1, 2, 3, 4, 7, 8, 9, 127, 128, 255, 256, 257, 1000, 4096, frame.MaxData - 1, frame.MaxData}
}

// P5.1
func TestLimits(t *testing.T) {
	if frame.Head != 8 || frame.MaxData != 16384 {
		t.Errorf("%d, %d", frame.Head, frame.MaxData)
	}
}

// P5.1
func TestAppendOfKnownBytes(t *testing.T) {
	want := []byte{0, 0, 0, 9, 0xcb, 0xf4, 0x39, 0x26, '1', '2', '3', '4', '5', '6', '7', '8', '9'}
	if b, e := frame.Append(nil, []byte("123456789")); !bytes.Equal(b, want) || e != api.OK {
		t.Errorf("%v, %v", b, e)
	}
	if b, e := frame.Append([]byte{5, 6}, nil); !bytes.Equal(b, []byte{5, 6, 0, 0, 0, 0, 0, 0, 0, 0}) || e != api.OK {
		t.Errorf("no data: %v, %v", b, e)
	}
}

// P5.1
func TestAppendPutsTheRecordBehind(t *testing.T) {
	for _, n := range sizes() {
		for _, ahead := range []int{0, 1, 5, 20000} {
			b, e := frame.Append(pattern(ahead), pattern(n))
			if want := append(pattern(ahead), record(pattern(n))...); !bytes.Equal(b, want) || e != api.OK {
				t.Errorf("%d bytes behind %d: %d bytes, %v", n, ahead, len(b), e)
			}
		}
	}
}

// P5.1
func TestAppendRefusesTooMuchData(t *testing.T) {
	for _, n := range []int{frame.MaxData + 1, frame.MaxData + 2, 1 << 16, 1<<16 + 1, 1 << 20} {
		for _, ahead := range [][]byte{nil, []byte("ab")} {
			if b, e := frame.Append(ahead, make([]byte, n)); len(b) != 0 || e != api.ErrLong {
				t.Errorf("%d bytes behind %q: %d bytes, %v", n, ahead, len(b), e)
			}
		}
	}
}

// P5.2
func TestReadTellsTheDataAndItsSize(t *testing.T) {
	for _, n := range sizes() {
		for _, behind := range [][]byte{nil, {0}, []byte("behind"), record([]byte("another"))} {
			b := append(record(pattern(n)), behind...)
			if data, taken, e := frame.Read(b); !bytes.Equal(data, pattern(n)) || taken != frame.Head+n || e != api.OK {
				t.Errorf("%d bytes with %q behind: %d bytes, %d, %v", n, behind, len(data), taken, e)
			}
		}
	}
}

// P5.2
func TestReadRefuses(t *testing.T) {
	sum := crc32.ChecksumIEEE
	for name, c := range map[string]struct {
		bytes []byte
		want  api.Errno
	}{
		"nothing":                       {nil, api.ErrShort},
		"seven bytes":                   {make([]byte, 7), api.ErrShort},
		"seven bytes of a long record":  {head(1<<31, 0)[:7], api.ErrShort},
		"one byte too few":              {record([]byte("abc"))[:10], api.ErrShort},
		"the head alone":                {record([]byte("a"))[:8], api.ErrShort},
		"too few and a wrong check":     {append(head(4, 1), "abc"...), api.ErrShort},
		"the most, and too few":         {append(head(frame.MaxData, sum(pattern(frame.MaxData))), pattern(frame.MaxData)[1:]...), api.ErrShort},
		"one too long":                  {append(head(frame.MaxData+1, sum(pattern(frame.MaxData+1))), pattern(frame.MaxData+1)...), api.ErrLong},
		"one too long, and too few":     {head(frame.MaxData+1, 0), api.ErrLong},
		"long in the third byte":        {head(1<<15, 0), api.ErrLong},
		"long in the second byte":       {head(1<<16, 0), api.ErrLong},
		"long in the first byte":        {head(1<<24, 0), api.ErrLong},
		"long in the greatest bit":      {head(1<<31, 0), api.ErrLong},
		"all bits":                      {bytes.Repeat([]byte{255}, 8), api.ErrLong},
		"all bits, and many bytes":      {bytes.Repeat([]byte{255}, 40000), api.ErrLong},
		"a check of no bytes":           {head(0, 1), api.ErrCheck},
		"a check with the least first":  {append(head(9, 0x2639f4cb), "123456789"...), api.ErrCheck},
		"a size with the least first":   {append([]byte{9, 0, 0, 0, 0xcb, 0xf4, 0x39, 0x26}, "123456789"...), api.ErrLong},
		"a check of more bytes":         {append(head(2, sum([]byte("abc"))), "abc"...), api.ErrCheck},
		"a check of less bytes":         {append(head(3, sum([]byte("ab"))), "abc"...), api.ErrCheck},
		"a wrong check of many bytes":   {append(head(frame.MaxData, 7), pattern(frame.MaxData)...), api.ErrCheck},
		"a byte too much ahead of it":   {append([]byte{0}, record([]byte("abc"))...), api.ErrCheck},
		"all nought but the last of it": {[]byte{0, 0, 0, 0, 0, 0, 0, 1, 9}, api.ErrCheck},
	} {
		if data, n, e := frame.Read(c.bytes); len(data) != 0 || n != 0 || e != c.want {
			t.Errorf("%s: %d bytes, %d, %v; want %v", name, len(data), n, e, c.want)
		}
	}
}

// P5.2
func TestReadSeesEveryBitThatIsAnother(t *testing.T) {
	whole := record([]byte("a record"))
	for i := range whole {
		for bit := range 8 {
			b := bytes.Clone(whole)
			b[i] ^= 1 << bit
			want := api.ErrCheck
			if size := binary.BigEndian.Uint32(b); size > frame.MaxData {
				want = api.ErrLong
			} else if size > 8 {
				want = api.ErrShort
			}
			if data, n, e := frame.Read(b); len(data) != 0 || n != 0 || e != want {
				t.Errorf("bit %d of byte %d: %q, %d, %v; want %v", bit, i, data, n, e, want)
			}
		}
	}
	for n := range whole {
		if data, taken, e := frame.Read(whole[:n]); len(data) != 0 || taken != 0 || e != api.ErrShort {
			t.Errorf("the first %d bytes: %q, %d, %v", n, data, taken, e)
		}
	}
}

// scanned are lists of data whose records are scanned.
func scanned() [][][]byte {
	var all [][]byte
	for _, n := range sizes() {
		all = append(all, pattern(n))
	}
	return [][][]byte{nil, {nil}, {[]byte("a")}, {nil, nil, nil}, {[]byte("a"), nil, []byte("bcd")}, all}
}

// P5.3
func TestScanTellsAllRecordsUpToAnError(t *testing.T) {
	broken := record([]byte("broken"))
	broken[10] ^= 1
	for _, list := range scanned() {
		var b []byte
		for _, data := range list {
			b = append(b, record(data)...)
		}
		for name, behind := range map[string][]byte{
			"nothing": nil, "a byte": {0}, "a head": head(5, 5), "a short record": record([]byte("short"))[:12],
			"a long one": append(head(1<<20, 0), record(nil)...), "a broken one, and a good one": append(bytes.Clone(broken), record([]byte("good"))...),
		} {
			got, n := frame.Scan(append(bytes.Clone(b), behind...))
			if !slices.EqualFunc(got, list, bytes.Equal) || n != len(b) {
				t.Errorf("%d records with %s behind: %d, %d bytes of %d", len(list), name, len(got), n, len(b))
			}
		}
	}
}

// P5.3
func TestScanEndsWhereABitIsAnother(t *testing.T) {
	var b []byte
	var ends []int
	list := []string{"one", "", "three", "f"}
	for _, data := range list {
		b = append(b, record([]byte(data))...)
		ends = append(ends, len(b))
	}
	for i := range b {
		whole := slices.IndexFunc(ends, func(end int) bool { return i < end })
		want := 0
		if whole > 0 {
			want = ends[whole-1]
		}
		b[i] ^= 128
		if got, n := frame.Scan(b); len(got) != whole || n != want {
			t.Errorf("byte %d: %d records, %d bytes; want %d, %d", i, len(got), n, whole, want)
		}
		b[i] ^= 128
		if got, n := frame.Scan(b[:i]); len(got) != whole || n != want {
			t.Errorf("the first %d bytes: %d records, %d bytes; want %d, %d", i, len(got), n, whole, want)
		}
	}
}

// P5.1, P5.3
func TestWhatWasAppendedIsScanned(t *testing.T) {
	for _, list := range scanned() {
		var b []byte
		for _, data := range list {
			var e api.Errno
			if b, e = frame.Append(b, data); e != api.OK {
				t.Fatal(e)
			}
		}
		if got, n := frame.Scan(b); !slices.EqualFunc(got, list, bytes.Equal) || n != len(b) {
			t.Errorf("%d records: %d, %d bytes of %d", len(list), len(got), n, len(b))
		}
	}
}

// P1
func TestEveryCallEndsAtAllBytes(t *testing.T) {
	lists := [][]byte{nil, {}, make([]byte, 4000), bytes.Repeat([]byte{255}, 100), record(nil), head(0xffffffff, 0xffffffff), head(1<<31, 1), head(1<<31-1, 1), head(frame.MaxData, 1)}
	for n := range 40 {
		lists = append(lists, pattern(n), make([]byte, n), record(pattern(n))[:n])
	}
	for _, b := range lists {
		frame.Append(b, b)
		frame.Append(nil, b)
		frame.Read(b)
		frame.Scan(b)
	}
}

// P2
func TestWhatIsHandedInIsNeitherChangedNorKept(t *testing.T) {
	room := []byte("0123456789abcdefghijklmnopqrstuvwxyz")
	before := bytes.Clone(room)
	b, data := room[:2], room[5:8]
	one, _ := frame.Append(b, data)
	two, _ := frame.Append(b, nil)
	if !bytes.Equal(room, before) {
		t.Errorf("the spare room is %q now", room)
	}
	if b, e := frame.Append(b, make([]byte, frame.MaxData+1)); len(b) != 0 || e != api.ErrLong || !bytes.Equal(room, before) {
		t.Errorf("refused, the spare room is %q now", room)
	}
	clear(room)
	if !bytes.Equal(one, append([]byte("01"), record([]byte("567"))...)) || !bytes.Equal(two, append([]byte("01"), record(nil)...)) {
		t.Errorf("what was answered hangs on what was handed in: %q, %q", one, two)
	}
	clear(one[:cap(one)])
	if !bytes.Equal(two, append([]byte("01"), record(nil)...)) {
		t.Error("two answers share memory")
	}
	clear(two[:cap(two)])
	if !bytes.Equal(room, make([]byte, len(room))) {
		t.Error("an answer shares memory with what was handed in")
	}
}

// P2
func TestWhatIsReadIsNewMemory(t *testing.T) {
	b := slices.Concat(record([]byte("one")), record([]byte("two")), record(nil), record([]byte("four")), []byte("rest"))
	before := bytes.Clone(b)
	data, _, _ := frame.Read(b[:11])
	list, _ := frame.Scan(b)
	again, _ := frame.Scan(b)
	if !bytes.Equal(b, before) {
		t.Error("what was handed in is another one now")
	}
	full := func(b []byte) []byte { return b[:cap(b)] }
	fill := func(b []byte) {
		for i := range full(b) {
			full(b)[i] = 'x'
		}
	}
	fill(data)
	fill(list[0])
	fill(list[2])
	for i := range list[:cap(list)] {
		if i > 0 && i != 2 {
			if want := []string{"one", "two", "", "four"}; i < 4 && string(list[i]) != want[i] {
				t.Errorf("%q hangs on another list", list[i])
			}
		}
		fill(list[:cap(list)][i])
		list[:cap(list)][i] = nil
	}
	if !bytes.Equal(b, before) {
		t.Error("an answer shares memory with what was handed in")
	}
	fill(b)
	if !slices.EqualFunc(again, []string{"one", "two", "", "four"}, func(b []byte, s string) bool { return string(b) == s }) {
		t.Errorf("an answer hangs on what was handed in, or on another one: %q", again)
	}
}
