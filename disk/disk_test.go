package disk_test

import (
	"bytes"
	"math"
	"math/rand"
	"testing"

	"contra/api"
	"contra/disk"
)

// made is a disk with so much room.
func made(t *testing.T, room int) *disk.Disk {
	t.Helper()
	d, e := disk.New(room)
	if d == nil || e != api.OK {
		t.Fatalf("New %d: %v", room, e)
	}
	return d
}

// synced is a disk with room for 20 bytes, of which these are there for sure.
func synced(t *testing.T, sure string) *disk.Disk {
	t.Helper()
	d := made(t, 20)
	does(t, "Write", d.Write([]byte(sure)), api.OK)
	does(t, "Sync", d.Sync(), api.OK)
	return d
}

// does holds an answer against the one that is wanted.
func does(t *testing.T, name string, e, want api.Errno) {
	t.Helper()
	if e != want {
		t.Errorf("%s: %v, want %v", name, e, want)
	}
}

// holds says what is there, on a disk that is up, and how many bytes of it are there for sure.
func holds(t *testing.T, d *disk.Disk, there string, sure int) {
	t.Helper()
	if d.Down() {
		t.Error("it is down")
	}
	if b, e := d.Read(); string(b) != there || e != api.OK {
		t.Errorf("there is %q, %v; want %q", b, e, there)
	}
	if d.Sure() != sure {
		t.Errorf("%d are sure, want %d", d.Sure(), sure)
	}
}

// isDown says that a disk is down, and does nothing.
func isDown(t *testing.T, d *disk.Disk, room, sure int) {
	t.Helper()
	for _, b := range [][]byte{nil, {}, []byte("x"), make([]byte, 21), make([]byte, disk.MaxRoom+1)} {
		does(t, "Write", d.Write(b), api.ErrDown)
		does(t, "Renew", d.Renew(b), api.ErrDown)
	}
	does(t, "Sync", d.Sync(), api.ErrDown)
	if b, e := d.Read(); len(b) != 0 || e != api.ErrDown {
		t.Errorf("Read: %q, %v", b, e)
	}
	if !d.Down() {
		t.Error("it is up")
	}
	if d.Room() != room || d.Sure() != sure {
		t.Errorf("room %d, %d sure; want %d, %d", d.Room(), d.Sure(), room, sure)
	}
}

// P6.1
func TestNewHoldsTheRoomAgainstItsBounds(t *testing.T) {
	if disk.MaxRoom != 4194304 {
		t.Errorf("MaxRoom: %d", disk.MaxRoom)
	}
	for _, room := range []int{0, 1, 2, 1000, disk.MaxRoom - 1, disk.MaxRoom} {
		d := made(t, room)
		holds(t, d, "", 0)
		if d.Room() != room {
			t.Errorf("Room: %d, want %d", d.Room(), room)
		}
		does(t, "too much", d.Write(make([]byte, room+1)), api.ErrFull)
		does(t, "all of it", d.Write(make([]byte, room)), api.OK)
		if d.Room() != 0 {
			t.Errorf("Room: %d", d.Room())
		}
	}
	for _, room := range []int{-1, -2, disk.MaxRoom + 1, math.MinInt, math.MaxInt} {
		if d, e := disk.New(room); d != nil || e != api.ErrRange {
			t.Errorf("New %d: %v, %v", room, d, e)
		}
	}
}

// P6.1
func TestWhileItIsDownNothingIsDone(t *testing.T) {
	d := synced(t, "abc")
	does(t, "Write", d.Write([]byte("defg")), api.OK)
	d.Crash(2, 0)
	isDown(t, d, 15, 3)
	isDown(t, d, 15, 3)
	d.Up()
	holds(t, d, "abcde", 5)
	d.Fuse(1)
	does(t, "Write", d.Write([]byte("xyz")), api.ErrDown)
	isDown(t, d, 14, 5)
	d.Up()
	holds(t, d, "abcdex", 6)
}

// P6.1, P6.2
func TestRoomIsWhatIsLeft(t *testing.T) {
	d := made(t, 10)
	for i, c := range []struct {
		do   func() api.Errno
		want api.Errno
		room int
	}{
		{func() api.Errno { return d.Write([]byte("abc")) }, api.OK, 7},
		{func() api.Errno { return d.Write(make([]byte, 8)) }, api.ErrFull, 7},
		{d.Sync, api.OK, 7},
		{func() api.Errno { return d.Write([]byte("defghij")) }, api.OK, 0},
		{func() api.Errno { return d.Write([]byte("k")) }, api.ErrFull, 0},
		{func() api.Errno { return d.Write(nil) }, api.OK, 0},
		{func() api.Errno { return d.Renew(make([]byte, 11)) }, api.ErrFull, 0},
		{func() api.Errno { return d.Renew(make([]byte, 10)) }, api.OK, 0},
		{func() api.Errno { return d.Renew([]byte("abcd")) }, api.OK, 6},
		{func() api.Errno { return d.Write(make([]byte, 7)) }, api.ErrFull, 6},
		{func() api.Errno { return d.Write([]byte("ef")) }, api.OK, 4},
		{d.Sync, api.OK, 4},
		{func() api.Errno { return d.Renew(nil) }, api.OK, 10},
		{d.Sync, api.OK, 10},
	} {
		if e := c.do(); e != c.want || d.Room() != c.room {
			t.Errorf("step %d: %v, room %d; want %v, %d", i, e, d.Room(), c.want, c.room)
		}
	}
	holds(t, d, "", 0)
}

// P6.2
func TestWriteRenewAndSync(t *testing.T) {
	d := synced(t, "ab")
	holds(t, d, "ab", 2)
	does(t, "Write", d.Write([]byte("cd")), api.OK)
	holds(t, d, "abcd", 2)
	does(t, "Write", d.Write([]byte("e")), api.OK)
	holds(t, d, "abcde", 2)
	does(t, "Write", d.Write(make([]byte, 16)), api.ErrFull)
	holds(t, d, "abcde", 2)
	does(t, "Sync", d.Sync(), api.OK)
	holds(t, d, "abcde", 5)
	does(t, "Renew", d.Renew([]byte("xyz")), api.OK)
	holds(t, d, "xyz", 5)
	does(t, "Write", d.Write([]byte("w")), api.OK)
	holds(t, d, "xyzw", 5)
	does(t, "Renew", d.Renew(make([]byte, 21)), api.ErrFull)
	holds(t, d, "xyzw", 5)
	does(t, "Sync", d.Sync(), api.OK)
	holds(t, d, "xyzw", 4)
	does(t, "Renew", d.Renew(nil), api.OK)
	holds(t, d, "", 4)
	does(t, "Sync", d.Sync(), api.OK)
	holds(t, d, "", 0)
	does(t, "Sync", d.Sync(), api.OK)
	holds(t, d, "", 0)
}

// P6.3
func TestACrashTearsOffWhatIsNotSure(t *testing.T) {
	for _, c := range []struct {
		keep int
		turn byte
		want string
	}{
		{1, 0, "abc"}, {2, 0, "abcd"}, {0, 0, "ab"}, {0, 255, "ab"}, {-1, 0, "ab"}, {-1, 255, "ab"}, {math.MinInt, 1, "ab"},
		{3, 0, "abcde"}, {4, 0, "abcde"}, {math.MaxInt, 0, "abcde"},
		{1, 1, "abb"}, {2, 0xff, "abc\x9b"}, {3, 2, "abcdg"}, {4, 2, "abcdg"}, {math.MaxInt, 0x80, "abcd\xe5"},
	} {
		d := synced(t, "ab")
		does(t, "Write", d.Write([]byte("cd")), api.OK)
		does(t, "Write", d.Write([]byte("e")), api.OK)
		d.Crash(c.keep, c.turn)
		isDown(t, d, 20-len(c.want), 2)
		d.Up()
		holds(t, d, c.want, len(c.want))
	}
}

// P6.3
func TestACrashLeavesWhatIsSure(t *testing.T) {
	for _, keep := range []int{math.MinInt, -1, 0, 1, 5, math.MaxInt} {
		d := synced(t, "ab")
		d.Crash(keep, 255)
		isDown(t, d, 18, 2)
		d.Up()
		holds(t, d, "ab", 2)
		d = made(t, 3)
		d.Crash(keep, 255)
		isDown(t, d, 3, 0)
		d.Up()
		holds(t, d, "", 0)
	}
}

// P6.3
func TestACrashTakesBackWhatWasRenewed(t *testing.T) {
	for _, keep := range []int{-1, 0, 1, 2, 3, 9, math.MaxInt} {
		d := synced(t, "abc")
		does(t, "Write", d.Write([]byte("de")), api.OK)
		does(t, "Renew", d.Renew([]byte("vwxyz")), api.OK)
		does(t, "Write", d.Write([]byte("12")), api.OK)
		d.Crash(keep, 255)
		isDown(t, d, 17, 3)
		d.Up()
		holds(t, d, "abc", 3)
		does(t, "Write", d.Write([]byte("d")), api.OK)
		holds(t, d, "abcd", 3)
		does(t, "Renew", d.Renew([]byte("1")), api.OK)
		does(t, "Renew", d.Renew([]byte("2")), api.OK)
		d.Crash(keep, 255)
		d.Up()
		holds(t, d, "abc", 3)
		does(t, "Renew", d.Renew([]byte("new")), api.OK)
		does(t, "Sync", d.Sync(), api.OK)
		does(t, "Write", d.Write([]byte("er")), api.OK)
		d.Crash(1, 0)
		d.Up()
		holds(t, d, "newe", 4)
	}
}

// P6.3
func TestACrashWhileItIsDownTearsOffMore(t *testing.T) {
	d := synced(t, "ab")
	does(t, "Write", d.Write([]byte("cdef")), api.OK)
	d.Crash(3, 1)
	isDown(t, d, 15, 2)
	d.Crash(2, 1)
	isDown(t, d, 16, 2)
	d.Crash(7, 2)
	isDown(t, d, 16, 2)
	d.Up()
	holds(t, d, "abcg", 4)
	d.Fuse(2)
	does(t, "Write", d.Write([]byte("xyz")), api.ErrDown)
	d.Crash(1, 0)
	d.Up()
	holds(t, d, "abcgx", 5)
}

// P6.3
func TestUpIsForADiskThatIsDown(t *testing.T) {
	d := synced(t, "ab")
	does(t, "Write", d.Write([]byte("cd")), api.OK)
	d.Up()
	holds(t, d, "abcd", 2)
	does(t, "Renew", d.Renew([]byte("x")), api.OK)
	d.Up()
	holds(t, d, "x", 2)
	d.Crash(0, 0)
	d.Up()
	d.Up()
	holds(t, d, "ab", 2)
}

// P6.4
func TestAFuseCutsAWriteOff(t *testing.T) {
	for _, c := range []struct {
		left int
		want string
	}{{0, "abc"}, {1, "abcd"}, {2, "abcde"}, {3, "abcdef"}} {
		d := synced(t, "ab")
		does(t, "Write", d.Write([]byte("c")), api.OK)
		d.Fuse(c.left)
		does(t, "Write", d.Write([]byte("defg")), api.ErrDown)
		isDown(t, d, 20-len(c.want), 2)
		d.Up()
		holds(t, d, c.want, len(c.want))
		does(t, "no crash is due any more", d.Write([]byte("0123456789")), api.OK)
		holds(t, d, c.want+"0123456789", len(c.want))
	}
}

// P6.4
func TestAFuseBurnsDown(t *testing.T) {
	d := made(t, 20)
	d.Fuse(5)
	does(t, "Write", d.Write([]byte("abc")), api.OK)
	does(t, "Write", d.Write(nil), api.OK)
	does(t, "Sync", d.Sync(), api.OK)
	does(t, "just as many", d.Write([]byte("de")), api.OK)
	holds(t, d, "abcde", 3)
	does(t, "none, where none are left", d.Write(nil), api.OK)
	does(t, "Renew to none", d.Renew(nil), api.OK)
	holds(t, d, "", 3)
	does(t, "Sync", d.Sync(), api.OK)
	does(t, "one more", d.Write([]byte("f")), api.ErrDown)
	isDown(t, d, 20, 0)
	d.Up()
	holds(t, d, "", 0)
}

// P6.4
func TestAFuseCutsARenewOff(t *testing.T) {
	for left := range 4 {
		d := synced(t, "abc")
		does(t, "Write", d.Write([]byte("de")), api.OK)
		d.Fuse(left)
		does(t, "Renew", d.Renew([]byte("wxyz")), api.ErrDown)
		isDown(t, d, 15, 3)
		d.Up()
		holds(t, d, "abcde", 5)
		does(t, "no crash is due any more", d.Renew([]byte("0123456789")), api.OK)
		holds(t, d, "0123456789", 5)
	}
	d := synced(t, "abc")
	d.Fuse(6)
	does(t, "Renew", d.Renew([]byte("wxyz")), api.OK)
	holds(t, d, "wxyz", 3)
	does(t, "just as many", d.Renew([]byte("12")), api.OK)
	holds(t, d, "12", 3)
	does(t, "one more", d.Renew([]byte("3")), api.ErrDown)
	d.Up()
	holds(t, d, "abc", 3)
}

// P6.3, P6.4
func TestAFuseBehindARenewLeavesWhatWasSure(t *testing.T) {
	d := synced(t, "abc")
	d.Fuse(6)
	does(t, "Renew", d.Renew([]byte("wxyz")), api.OK)
	does(t, "Write", d.Write([]byte("12345")), api.ErrDown)
	isDown(t, d, 14, 3) // four renewed and two written are there till it is up
	d.Up()
	holds(t, d, "abc", 3)
	if d.Room() != 17 {
		t.Errorf("Room: %d", d.Room())
	}
	does(t, "Write", d.Write([]byte("d")), api.OK)
	does(t, "Sync", d.Sync(), api.OK)
	holds(t, d, "abcd", 4)
}

// P6.4
func TestOtherErrorsGoAheadOfAFuse(t *testing.T) {
	d := synced(t, "abc")
	d.Fuse(2)
	does(t, "Write", d.Write(make([]byte, 18)), api.ErrFull)
	does(t, "Renew", d.Renew(make([]byte, 21)), api.ErrFull)
	holds(t, d, "abc", 3)
	does(t, "two are left", d.Write([]byte("de")), api.OK)
	does(t, "Write", d.Write(make([]byte, 16)), api.ErrFull)
	does(t, "none is left", d.Write([]byte("f")), api.ErrDown)
	d.Fuse(1) // while it is down
	does(t, "Write", d.Write([]byte("fg")), api.ErrDown)
	does(t, "Renew", d.Renew(nil), api.ErrDown)
	isDown(t, d, 15, 3)
	d.Up()
	holds(t, d, "abcde", 5)
	does(t, "one is left", d.Write([]byte("f")), api.OK)
	does(t, "none is left", d.Write([]byte("g")), api.ErrDown)
	d.Up()
	holds(t, d, "abcdef", 6)
}

// P6.4
func TestAnotherFuseOrACrashPutsAnEndToAFuse(t *testing.T) {
	for _, n := range []int{-1, -2, math.MinInt} {
		d := synced(t, "abc")
		d.Fuse(1)
		d.Fuse(n)
		does(t, "no crash is due", d.Write([]byte("0123456789")), api.OK)
		does(t, "no crash is due", d.Renew([]byte("0123456789")), api.OK)
		does(t, "no crash is due", d.Write([]byte("0123456789")), api.OK)
	}
	d := synced(t, "abc")
	d.Fuse(1)
	d.Fuse(3)
	does(t, "the later one", d.Write([]byte("def")), api.OK)
	d.Fuse(math.MaxInt)
	does(t, "a long one", d.Write([]byte("ghi")), api.OK)
	d.Fuse(1)
	d.Crash(9, 0)
	d.Up()
	does(t, "behind a crash", d.Write([]byte("0123456789")), api.OK)
	d.Crash(0, 0)
	d.Fuse(2)
	d.Crash(0, 0)
	d.Up()
	does(t, "behind a crash of a disk that is down", d.Write([]byte("0123456789")), api.OK)
	holds(t, d, "abcdefghi0123456789", 9)
}

// model is a disk, as the document's words tell it.
type model struct {
	room, fuse    int
	there, sure   []byte
	renewed, down bool
}

func (m *model) put(b []byte, renew bool) api.Errno {
	already := len(m.there)
	if renew {
		already = 0
	}
	switch {
	case m.down:
		return api.ErrDown
	case already+len(b) > m.room:
		return api.ErrFull
	case m.fuse >= 0 && len(b) > m.fuse:
		if !renew {
			m.there = append(bytes.Clone(m.there), b[:m.fuse]...)
		}
		m.down, m.fuse = true, -1
		return api.ErrDown
	}
	if m.fuse >= 0 {
		m.fuse -= len(b)
	}
	if renew {
		m.there, m.renewed = bytes.Clone(b), true
	} else {
		m.there = append(bytes.Clone(m.there), b...)
	}
	return api.OK
}

func (m *model) sync() api.Errno {
	if m.down {
		return api.ErrDown
	}
	m.sure, m.renewed = m.there, false
	return api.OK
}

func (m *model) crash(keep int, turn byte) {
	m.down, m.fuse = true, -1
	if m.renewed {
		m.there, m.renewed = m.sure, false
	}
	behind := m.there[len(m.sure):]
	for len(behind) > 0 && len(behind) > keep {
		behind = behind[:len(behind)-1]
	}
	m.there = append(bytes.Clone(m.sure), behind...)
	if len(m.there) > len(m.sure) {
		m.there[len(m.there)-1] ^= turn
	}
}

func (m *model) up() {
	if m.down && m.renewed {
		m.there = m.sure
	}
	if m.down {
		m.sure, m.renewed, m.down = m.there, false, false
	}
}

// P6.1, P6.2, P6.3, P6.4
func TestDisksAreAsTheDocumentTells(t *testing.T) {
	for seed := range int64(300) {
		r := rand.New(rand.NewSource(seed))
		m := &model{room: r.Intn(30), fuse: -1}
		d := made(t, m.room)
		for step := range 200 {
			b := make([]byte, r.Intn(8))
			r.Read(b)
			n, turn := r.Intn(12)-2, byte(r.Intn(256))
			var e, want api.Errno
			act := r.Intn(14)
			switch {
			case act < 5:
				e, want = d.Write(b), m.put(b, false)
			case act < 7:
				e, want = d.Renew(b), m.put(b, true)
			case act < 9:
				e, want = d.Sync(), m.sync()
			case act == 9:
				d.Crash(n, turn)
				m.crash(n, turn)
			case act == 10:
				d.Fuse(n)
				m.fuse = n
			default:
				d.Up()
				m.up()
			}
			there, re := d.Read()
			wantThere, wantRead := m.there, api.OK
			if m.down {
				wantThere, wantRead = nil, api.ErrDown
			}
			if e != want || re != wantRead || !bytes.Equal(there, wantThere) || d.Down() != m.down || d.Sure() != len(m.sure) || d.Room() != m.room-len(m.there) {
				t.Fatalf("seed %d, step %d, act %d: %v, %q, %v, %v, %d, %d; want %v, %+v", seed, step, act, e, there, re, d.Down(), d.Sure(), d.Room(), want, *m)
			}
		}
	}
}

// P1
func TestEveryCallEndsAtAllArguments(t *testing.T) {
	numbers := []int{math.MinInt, math.MinInt + 1, -1, 0, 1, 2, 5, disk.MaxRoom, disk.MaxRoom + 1, math.MaxInt - 1, math.MaxInt}
	for _, room := range []int{0, 1, 5, disk.MaxRoom} {
		for _, n := range numbers {
			disk.New(n)
			d := made(t, room)
			for _, b := range [][]byte{nil, {}, {1}, {1, 2, 3, 4, 5}, make([]byte, disk.MaxRoom+1)} {
				d.Fuse(n)
				d.Write(b)
				d.Renew(b)
				d.Crash(n, 255)
				d.Fuse(n)
				d.Read()
				d.Up()
				d.Write(b)
				d.Sync()
				d.Renew(b)
				d.Write(b)
				d.Crash(n, 0)
				d.Up()
				d.Up()
				d.Read()
				d.Down()
				d.Sure()
				d.Room()
			}
		}
	}
}

// P2
func TestWhatIsHandedInIsNeitherChangedNorKept(t *testing.T) {
	room := []byte("0123456789abcdef")
	before := bytes.Clone(room)
	for _, put := range []func(*disk.Disk, []byte) api.Errno{(*disk.Disk).Write, (*disk.Disk).Renew} {
		copy(room, before)
		d := made(t, 20)
		does(t, "put", put(d, room[:4]), api.OK)
		does(t, "Write", d.Write([]byte("xyz")), api.OK) // into spare room, if it was kept
		if !bytes.Equal(room, before) {
			t.Errorf("what was handed in is %q now", room)
		}
		clear(room)
		holds(t, d, "0123xyz", 0)
		d.Crash(2, 255)
		if !bytes.Equal(room, make([]byte, len(room))) {
			t.Errorf("what was handed in is %q now", room)
		}
		copy(room, before)
		d = made(t, 20)
		does(t, "put", put(d, room[:4]), api.OK)
		does(t, "Sync", d.Sync(), api.OK)
		clear(room)
		holds(t, d, "0123", 4)
		does(t, "Write", d.Write([]byte("xyz")), api.OK)
		does(t, "Sync", d.Sync(), api.OK)
		if !bytes.Equal(room, make([]byte, len(room))) {
			t.Errorf("what was handed in is %q now", room)
		}
		d.Crash(0, 0)
		d.Up()
		holds(t, d, "0123xyz", 7)
	}
}

// P2
func TestWhatIsReadIsNewMemory(t *testing.T) {
	d := synced(t, "abc")
	for range 3 {
		one, _ := d.Read()
		two, _ := d.Read()
		want := string(one)
		clear(one[:cap(one)])
		if string(two) != want {
			t.Errorf("two answers share memory: %q", two)
		}
		sure := d.Sure()
		holds(t, d, want, sure)
		clear(two[:cap(two)])
		does(t, "Write", d.Write([]byte("de")), api.OK)
		if !bytes.Equal(two[:cap(two)], make([]byte, cap(two))) {
			t.Errorf("an answer hangs on what is kept: %q", two)
		}
		holds(t, d, want+"de", sure)
	}
	does(t, "Renew", d.Renew([]byte("new")), api.OK)
	b, _ := d.Read()
	clear(b[:cap(b)])
	holds(t, d, "new", 3)
	does(t, "Sync", d.Sync(), api.OK)
	b, _ = d.Read()
	clear(b[:cap(b)])
	d.Crash(0, 0)
	d.Up()
	holds(t, d, "new", 3)
}

// P2
func TestDisksShareNothing(t *testing.T) {
	a, b := synced(t, "abc"), synced(t, "xyz")
	does(t, "Write", a.Write([]byte("1")), api.OK)
	a.Fuse(0)
	a.Crash(1, 1)
	holds(t, b, "xyz", 3)
	does(t, "Write", b.Write([]byte("2")), api.OK)
	holds(t, b, "xyz2", 3)
	a.Up()
	holds(t, a, "abc0", 4)
}
