package wal_test

import (
	"bytes"
	"encoding/binary"
	"fmt"
	"hash/crc32"
	"math/rand"
	"slices"
	"testing"

	"contra/api"
	"contra/disk"
	"contra/frame"
	"contra/wal"
)

// room is enough for all that these tests put on a disk, but for those that say otherwise.
const room = 1 << 16

// frames are the bytes of records, as the document's words tell them.
func frames(list ...string) []byte {
	var b []byte
	for _, s := range list {
		b = binary.BigEndian.AppendUint32(b, uint32(len(s)))
		b = binary.BigEndian.AppendUint32(b, crc32.ChecksumIEEE([]byte(s)))
		b = append(b, s...)
	}
	return b
}

// on is a disk on which these bytes are there for sure.
func on(t *testing.T, room int, there []byte) *disk.Disk {
	t.Helper()
	d, e := disk.New(room)
	does(t, "New", e, api.OK)
	does(t, "Write", d.Write(there), api.OK)
	does(t, "Sync", d.Sync(), api.OK)
	return d
}

// opened is the log on a disk, which has these records.
func opened(t *testing.T, d *disk.Disk, want ...string) *wal.Log {
	t.Helper()
	l, list, e := wal.Open(d)
	if l == nil || e != api.OK {
		t.Fatalf("Open: %v, %v", l, e)
	}
	if !same(list, want) {
		t.Fatalf("Open: the records %q, want %q", list, want)
	}
	if l.Len() != len(want) {
		t.Errorf("Len: %d, want %d", l.Len(), len(want))
	}
	holds(t, d, frames(want...), len(frames(want...)))
	return l
}

// same says whether records are these texts.
func same(list [][]byte, want []string) bool {
	return slices.EqualFunc(list, want, func(b []byte, s string) bool { return string(b) == s })
}

// does holds an answer against the one that is wanted.
func does(t *testing.T, name string, e, want api.Errno) {
	t.Helper()
	if e != want {
		t.Errorf("%s: %v, want %v", name, e, want)
	}
}

// holds says what is there on a disk that is up, and how many bytes of it are there for sure.
func holds(t *testing.T, d *disk.Disk, there []byte, sure int) {
	t.Helper()
	if b, e := d.Read(); !bytes.Equal(b, there) || e != api.OK {
		t.Errorf("there is %q, %v; want %q", b, e, there)
	}
	if d.Sure() != sure {
		t.Errorf("%d are sure, want %d", d.Sure(), sure)
	}
}

// crashed is the disk that is up again behind a crash.
func crashed(d *disk.Disk, keep int, turn byte) *disk.Disk {
	d.Crash(keep, turn)
	d.Up()
	return d
}

// refusesToOpen says that Open answers none of a disk, and this error.
func refusesToOpen(t *testing.T, d *disk.Disk, want api.Errno) {
	t.Helper()
	if l, list, e := wal.Open(d); l != nil || len(list) != 0 || e != want {
		t.Errorf("Open: %v, %q, %v; want %v", l, list, e, want)
	}
}

// lists are records that a log may have.
func lists() [][]string {
	return [][]string{nil, {""}, {"a"}, {"", "", ""}, {"one", "", "three"}, {"a", string(make([]byte, frame.MaxData)), "b"}}
}

// P7.1
func TestOpenTellsTheRecords(t *testing.T) {
	for _, list := range lists() {
		opened(t, on(t, room, frames(list...)), list...)
	}
}

// P7.1
func TestOpenSyncsTheDisk(t *testing.T) {
	d := on(t, room, frames("one"))
	does(t, "Write", d.Write(frames("two", "three")), api.OK)
	opened(t, d, "one", "two", "three")
	opened(t, crashed(d, 0, 0), "one", "two", "three")
	does(t, "Renew", d.Renew(frames("four")), api.OK)
	opened(t, d, "four")
	opened(t, crashed(d, 0, 0), "four")
}

// P7.1
func TestOpenCutsOffWhatIsNotWhole(t *testing.T) {
	list := []string{"one", "", "three", "f"}
	all := frames(list...)
	for n := range all {
		whole := 0
		for len(frames(list[:whole+1]...)) <= n {
			whole++
		}
		d := on(t, room, all[:n])
		l := opened(t, d, list[:whole]...)
		if want := room - len(frames(list[:whole]...)); d.Room() != want {
			t.Errorf("%d bytes: room %d, want %d", n, d.Room(), want)
		}
		does(t, "Add", l.Add([]byte("more")), api.OK)
		opened(t, d, append(slices.Clone(list[:whole]), "more")...)
	}
}

// P7.1
func TestOpenCutsOffAllBehindABrokenRecord(t *testing.T) {
	list := []string{"one", "", "three", "f"}
	all := frames(list...)
	for i := range all {
		whole := 0
		for len(frames(list[:whole+1]...)) <= i {
			whole++
		}
		b := bytes.Clone(all)
		b[i] ^= 128
		opened(t, on(t, room, b), list[:whole]...)
	}
	long := binary.BigEndian.AppendUint32(nil, frame.MaxData+1)
	opened(t, on(t, room, slices.Concat(frames("a"), long, make([]byte, frame.MaxData+9), frames("b"))), "a")
}

// P7.1
func TestOpenRenewsOnlyWhatIsToBeCutOff(t *testing.T) {
	for _, list := range lists() {
		d := on(t, room, frames(list...))
		d.Fuse(0)
		opened(t, d, list...)
		does(t, "the fuse is as it was", d.Write([]byte("x")), api.ErrDown)
	}
	d := on(t, room, []byte("torn"))
	d.Fuse(0)
	opened(t, d)
	full := frames("one", "two")
	d = on(t, len(full), full)
	opened(t, d, "one", "two")
	d = on(t, len(full)-1, full[:len(full)-1])
	opened(t, d, "one")
}

// P7.1
func TestOpenRefusesADiskThatIsDown(t *testing.T) {
	d := on(t, room, frames("one"))
	d.Crash(0, 0)
	refusesToOpen(t, d, api.ErrDown)
	refusesToOpen(t, d, api.ErrDown)
	d.Up()
	opened(t, d, "one")
}

// P7.1
func TestOpenGoesDownWithTheDisk(t *testing.T) {
	whole := frames("one", "two")
	torn := append(bytes.Clone(whole), "torn"...)
	for left := range whole {
		d := on(t, room, torn)
		d.Fuse(left)
		refusesToOpen(t, d, api.ErrDown)
		if !d.Down() {
			t.Error("it is up")
		}
		d.Up()
		holds(t, d, torn, len(torn))
		opened(t, d, "one", "two")
	}
	d := on(t, room, torn)
	d.Fuse(len(whole))
	opened(t, d, "one", "two")
	opened(t, crashed(d, 0, 0), "one", "two")
}

// P7.2, P7.4
func TestPutStandsBehindTheOthers(t *testing.T) {
	d := on(t, room, frames("one"))
	l := opened(t, d, "one")
	list := []string{"one"}
	for _, s := range []string{"two", "", "four", "", string(make([]byte, frame.MaxData)), "123456789"} {
		does(t, "Put", l.Put([]byte(s)), api.OK)
		list = append(list, s)
		holds(t, d, frames(list...), len(frames("one")))
		if l.Len() != len(list) {
			t.Errorf("Len: %d, want %d", l.Len(), len(list))
		}
	}
	does(t, "Sync", l.Sync(), api.OK)
	holds(t, d, frames(list...), len(frames(list...)))
	if l.Len() != len(list) {
		t.Errorf("Len behind Sync: %d, want %d", l.Len(), len(list))
	}
	opened(t, crashed(d, 0, 0), list...)
}

// P7.2, P7.4
func TestAddIsThereForSure(t *testing.T) {
	d := on(t, room, nil)
	l := opened(t, d)
	var list []string
	for _, s := range []string{"one", "", "three"} {
		list = append(list, s)
		does(t, "Add", l.Add([]byte(s)), api.OK)
		holds(t, d, frames(list...), len(frames(list...)))
		if l.Len() != len(list) {
			t.Errorf("Len: %d, want %d", l.Len(), len(list))
		}
	}
	does(t, "Put", l.Put([]byte("four")), api.OK)
	does(t, "Add", l.Add([]byte("five")), api.OK)
	opened(t, crashed(d, 0, 255), "one", "", "three", "four", "five")
}

// P7.2: x is added, yz put; a crash that keeps nine bytes leaves x.
func TestACrashLeavesWholeRecords(t *testing.T) {
	put := []string{"yz", "", "w"}
	behind := frames(put...)
	for keep := -1; keep <= len(behind)+1; keep++ {
		for _, turn := range []byte{0, 1, 128, 255} {
			d := on(t, room, nil)
			l := opened(t, d)
			does(t, "Add", l.Add([]byte("x")), api.OK)
			for _, s := range put {
				does(t, "Put", l.Put([]byte(s)), api.OK)
			}
			n := min(max(keep, 0), len(behind))
			if turn != 0 {
				n-- // the last byte that stays is another one
			}
			whole := 0
			for whole < len(put) && len(frames(put[:whole+1]...)) <= n {
				whole++
			}
			opened(t, crashed(d, keep, turn), append([]string{"x"}, put[:whole]...)...)
		}
	}
}

// P7.2
func TestAFuseLeavesWholeRecords(t *testing.T) {
	all := frames("two", "three")
	for left := range len(all) + 1 {
		d := on(t, room, frames("one"))
		l := opened(t, d, "one")
		d.Fuse(left)
		want := []string{"one"}
		for _, s := range []string{"two", "three"} {
			wanted := api.ErrDown
			if len(frames(append(want, s)[1:]...)) <= left && !d.Down() {
				want, wanted = append(want, s), api.OK
			}
			does(t, "Add", l.Add([]byte(s)), wanted)
		}
		d.Up()
		opened(t, d, want...)
	}
}

// P7.2, P7.4
func TestPutAndAddRefuse(t *testing.T) {
	has := frames("one", "two")
	d := on(t, len(has)+11, has)
	l := opened(t, d, "one", "two")
	long := make([]byte, frame.MaxData+1)
	is := func(there []byte, count int) {
		t.Helper()
		holds(t, d, there, len(has))
		if l.Len() != count {
			t.Errorf("Len: %d, want %d", l.Len(), count)
		}
	}
	for name, do := range map[string]func([]byte) api.Errno{"Put": l.Put, "Add": l.Add} {
		does(t, name+" of too much", do(long), api.ErrLong)
		does(t, name+" of much too much", do(make([]byte, 1<<20)), api.ErrLong)
		does(t, name+" where there is no room", do([]byte("four")), api.ErrFull)
		does(t, name+" of the most", do(long[1:]), api.ErrFull)
		is(has, 2)
	}
	does(t, "Put of just as much", l.Put([]byte("abc")), api.OK)
	all := frames("one", "two", "abc")
	is(all, 3)
	does(t, "Put", l.Put(nil), api.ErrFull)
	does(t, "Add is refused, and syncs nothing", l.Add(nil), api.ErrFull)
	does(t, "Add of too much syncs nothing", l.Add(long), api.ErrLong)
	is(all, 3)
	d.Crash(-1, 0)
	for name, do := range map[string]func([]byte) api.Errno{"Put": l.Put, "Add": l.Add} {
		does(t, name+" of too much, while it is down", do(long), api.ErrLong)
		does(t, name+" of more than there is room for, while it is down", do(long[1:]), api.ErrDown)
		does(t, name+" while it is down", do(nil), api.ErrDown)
	}
	does(t, "Sync while it is down", l.Sync(), api.ErrDown)
	d.Up()
	opened(t, d, "one", "two")
}

// P7.2
func TestRefusedRecordsSpendNothingOfAFuse(t *testing.T) {
	d := on(t, 100, frames("one"))
	l := opened(t, d, "one")
	d.Fuse(11)
	does(t, "Put", l.Put(make([]byte, frame.MaxData+1)), api.ErrLong)
	does(t, "Put", l.Put(make([]byte, 100)), api.ErrFull)
	does(t, "Renew", l.Renew(make([]byte, frame.MaxData+1)), api.ErrLong)
	does(t, "Renew", l.Renew(make([]byte, 100)), api.ErrFull)
	does(t, "Add", l.Add([]byte("two")), api.OK)
	does(t, "Add", l.Add(nil), api.ErrDown)
	d.Up()
	opened(t, d, "one", "two")
}

// texts are some texts as bytes.
func texts(list []string) [][]byte {
	var all [][]byte
	for _, s := range list {
		all = append(all, []byte(s))
	}
	return all
}

// P7.3, P7.4
func TestRenewStandsInThePlaceOfAll(t *testing.T) {
	for _, old := range lists() {
		for _, list := range lists() {
			d := on(t, room, frames(old...))
			l := opened(t, d, old...)
			does(t, "Put", l.Put([]byte("put")), api.OK)
			does(t, "Renew", l.Renew(texts(list)...), api.OK)
			holds(t, d, frames(list...), len(frames(list...)))
			if l.Len() != len(list) {
				t.Errorf("Len: %d, want %d", l.Len(), len(list))
			}
			does(t, "Put", l.Put([]byte("more")), api.OK)
			if l.Len() != len(list)+1 {
				t.Errorf("Len behind a Put: %d, want %d", l.Len(), len(list)+1)
			}
			opened(t, crashed(d, 0, 255), list...)
		}
	}
}

// P7.3, P7.4
func TestRenewRefuses(t *testing.T) {
	long := make([]byte, frame.MaxData+1)
	d := on(t, 40, frames("one"))
	l := opened(t, d, "one")
	does(t, "Put", l.Put([]byte("two")), api.OK)
	for name, c := range map[string]struct {
		list [][]byte
		want api.Errno
	}{
		"too much":                  {[][]byte{long}, api.ErrLong},
		"too much at the end":       {[][]byte{nil, []byte("a"), long}, api.ErrLong},
		"too much ahead":            {[][]byte{long, nil}, api.ErrLong},
		"too much, and no room":     {[][]byte{long[1:], long[1:], long}, api.ErrLong},
		"no room":                   {[][]byte{long[1:]}, api.ErrFull},
		"no room for the last byte": {[][]byte{make([]byte, 10), nil, make([]byte, 7)}, api.ErrFull},
		"no room for the last head": {[][]byte{nil, nil, nil, nil, nil, nil}, api.ErrFull},
	} {
		does(t, name, l.Renew(c.list...), c.want)
		holds(t, d, frames("one", "two"), len(frames("one")))
		if l.Len() != 2 {
			t.Errorf("%s: Len: %d", name, l.Len())
		}
		does(t, "what wasn't sure isn't", d.Sync(), api.OK)
		l = opened(t, d, "one", "two")
		does(t, "Renew", l.Renew([]byte("one")), api.OK)
		does(t, "Put", l.Put([]byte("two")), api.OK)
	}
	does(t, "just as much", l.Renew(make([]byte, 10), nil, make([]byte, 6)), api.OK)
	d.Crash(0, 0)
	does(t, "too much, while it is down", l.Renew(nil, long), api.ErrLong)
	does(t, "no room, while it is down", l.Renew(long[1:]), api.ErrDown)
	does(t, "while it is down", l.Renew(nil), api.ErrDown)
	does(t, "none, while it is down", l.Renew(), api.ErrDown)
	d.Up()
	opened(t, d, string(make([]byte, 10)), "", string(make([]byte, 6)))
}

// P7.3
func TestACrashLeavesTheOldRecordsOrTheNewOnes(t *testing.T) {
	renewed := []string{"four", "", "six"}
	size := len(frames(renewed...))
	for left := range size + 2 {
		d := on(t, room, nil)
		l := opened(t, d)
		does(t, "Add", l.Add([]byte("one")), api.OK)
		does(t, "Add", l.Add([]byte("two")), api.OK)
		d.Fuse(left)
		if left < size {
			does(t, "Renew", l.Renew(texts(renewed)...), api.ErrDown)
			d.Crash(left, 1)
			d.Up()
			opened(t, d, "one", "two")
			continue
		}
		does(t, "Renew", l.Renew(texts(renewed)...), api.OK)
		opened(t, crashed(d, 0, 1), renewed...)
	}
}

// P7.3
func TestRenewLastsThoughMoreIsPut(t *testing.T) {
	d := on(t, room, frames("one", "two"))
	l := opened(t, d, "one", "two")
	does(t, "Renew", l.Renew([]byte("new")), api.OK)
	does(t, "Add", l.Add([]byte("added")), api.OK)
	does(t, "Put", l.Put([]byte("put")), api.OK)
	opened(t, crashed(d, 10, 0), "new", "added")
}

// story is a log on a disk, played at random, beside what the document's words say that must be there.
type story struct {
	t    *testing.T
	r    *rand.Rand
	d    *disk.Disk
	l    *wal.Log
	sure []string // there for sure
	put  []string // put since
	next int
}

func (s *story) data() string {
	s.next++
	return fmt.Sprint(s.next, string(make([]byte, s.r.Intn(12))))
}

func (s *story) do() {
	old := append(slices.Clone(s.sure), s.put...)
	switch act := s.r.Intn(12); {
	case act < 4:
		s.added(s.l.Put, false, old)
	case act < 6:
		s.added(s.l.Add, true, old)
	case act < 7:
		if s.l.Sync() == api.OK {
			s.sure, s.put = old, nil
		}
	case act < 8:
		s.renewed(old)
	case act < 9:
		s.d.Fuse(s.r.Intn(60) - 5)
	case act < 10:
		s.d.Crash(s.r.Intn(60)-5, byte(s.r.Intn(3)))
	default:
		s.again()
	}
	if !s.d.Down() && s.l.Len() != len(s.sure)+len(s.put) {
		s.t.Fatalf("Len: %d; %q and %q are there", s.l.Len(), s.sure, s.put)
	}
	if s.d.Down() {
		s.again()
	}
}

// added puts a record behind the old ones, which all are sure then, if it is synced.
func (s *story) added(do func([]byte) api.Errno, synced bool, old []string) {
	data := s.data()
	room := s.d.Room()
	e := do([]byte(data))
	switch {
	case e == api.ErrFull && room < frame.Head+len(data), e == api.ErrDown:
	case e != api.OK:
		s.t.Fatalf("%v, with room for %d", e, room)
	case synced:
		s.sure, s.put = append(old, data), nil
	default:
		s.put = append(slices.Clone(s.put), data)
	}
}

func (s *story) renewed(old []string) {
	var list []string
	for range s.r.Intn(5) {
		list = append(list, s.data())
	}
	e := s.l.Renew(texts(list)...)
	there, _ := s.d.Read()
	switch {
	case e == api.OK:
		s.sure, s.put = list, nil
		if !bytes.Equal(there, frames(list...)) {
			s.t.Fatalf("Renew to %q: there is %q", list, there)
		}
	case e == api.ErrFull && !bytes.Equal(there, frames(old...)):
		s.t.Fatalf("Renew refused: there is %q", there)
	case e != api.ErrFull && e != api.ErrDown:
		s.t.Fatalf("Renew: %v", e)
	}
}

// again opens the log anew: it has what was sure, and of what was put since the first ones.
func (s *story) again() {
	crash := s.d.Down()
	s.d.Up()
	l, list, e := wal.Open(s.d)
	if e == api.ErrDown && s.d.Down() {
		s.again()
		return
	}
	if e != api.OK {
		s.t.Fatalf("Open: %v", e)
	}
	all := append(slices.Clone(s.sure), s.put...)
	if len(list) < len(s.sure) || len(list) > len(all) || !crash && len(list) != len(all) || !same(list, all[:len(list)]) {
		s.t.Fatalf("Open: %q; sure were %q, put %q", list, s.sure, s.put)
	}
	s.l, s.sure, s.put = l, all[:len(list)], nil
	holds(s.t, s.d, frames(s.sure...), len(frames(s.sure...)))
}

// P7.1, P7.2, P7.3, P7.4
func TestLogsAreAsTheDocumentTells(t *testing.T) {
	for seed := range int64(300) {
		r := rand.New(rand.NewSource(seed))
		s := &story{t: t, r: r, d: on(t, r.Intn(400), nil)}
		s.again()
		for range 200 {
			s.do()
		}
	}
}

// P1
func TestEveryCallEndsAtAllArguments(t *testing.T) {
	long := make([]byte, frame.MaxData+1)
	data := [][]byte{nil, {}, {0}, long[1:], long, make([]byte, 1<<22+1)}
	for _, room := range []int{0, 1, 8, 100, disk.MaxRoom} {
		for _, there := range [][]byte{nil, frames("a"), {1}, bytes.Repeat([]byte{255}, 50), make([]byte, 65536)} {
			d := on(t, room, there[:min(len(there), room)])
			l, _, e := wal.Open(d)
			does(t, "Open", e, api.OK)
			for _, fuse := range []int{-1, 0, 1, 9, 1 << 20} {
				for _, b := range data {
					d.Up()
					d.Fuse(fuse)
					l.Put(b)
					l.Sync()
					l.Add(b)
					l.Renew(b)
					l.Renew(b, nil, b)
					l.Renew()
					l.Add(b)
					l.Len()
					d.Crash(3, 3)
					wal.Open(d)
				}
			}
		}
	}
	many := make([][]byte, 1<<18)
	d := on(t, disk.MaxRoom, nil)
	l := opened(t, d)
	does(t, "Renew to many records", l.Renew(many...), api.OK)
	does(t, "Renew to more than there is room for", l.Renew(slices.Concat(many, many, many)...), api.ErrFull)
	if l, list, e := wal.Open(d); l.Len() != len(many) || len(list) != len(many) || e != api.OK {
		t.Errorf("%d records, %v", len(list), e)
	}
}

// P2
func TestWhatIsHandedInIsNeitherChangedNorKept(t *testing.T) {
	room := []byte("0123456789abcdef")
	before := bytes.Clone(room)
	list := [][]byte{room[:3], room[5:5], room[7:9], {'s', 'p', 'a', 'r', 'e'}}
	for name, do := range map[string]func(*wal.Log) api.Errno{
		"Put":   func(l *wal.Log) api.Errno { return l.Put(room[:3]) },
		"Add":   func(l *wal.Log) api.Errno { return l.Add(room[:3]) },
		"Renew": func(l *wal.Log) api.Errno { return l.Renew(list[:3]...) },
	} {
		copy(room, before)
		d := on(t, 1000, nil)
		l := opened(t, d)
		does(t, name, do(l), api.OK)
		does(t, "Put", l.Put([]byte("more")), api.OK)
		if !bytes.Equal(room, before) || !bytes.Equal(list[1], nil) || string(list[3]) != "spare" {
			t.Errorf("%s: what was handed in is %q, %q now", name, room, list)
		}
		clear(room)
		want := []string{"012", "more"}
		if name == "Renew" {
			want = []string{"012", "", "78", "more"}
		}
		holds(t, d, frames(want...), d.Sure())
		opened(t, d, want...)
		if !bytes.Equal(room, make([]byte, len(room))) {
			t.Errorf("%s: what was handed in is %q now", name, room)
		}
	}
}

// P2
func TestWhatIsAnsweredIsNewMemory(t *testing.T) {
	list := []string{"one", "", "three", "four"}
	d := on(t, 1000, frames(list...))
	_, one, _ := wal.Open(d)
	_, two, _ := wal.Open(d)
	for i, b := range one {
		b = b[:cap(b)]
		for j := range b {
			b[j] = 'x'
		}
		for k, other := range one[i+1:] {
			if string(other) != list[i+1+k] {
				t.Errorf("record %d shares memory with record %d", i+1+k, i)
			}
		}
	}
	clear(one[:cap(one)])
	if !same(two, list) {
		t.Errorf("two answers share memory: %q", two)
	}
	opened(t, d, list...)
	for _, b := range two {
		clear(b[:cap(b)])
	}
	opened(t, d, list...)
}

// P2
func TestLogsShareNothing(t *testing.T) {
	a, b := on(t, 100, frames("a")), on(t, 100, frames("b"))
	l, m := opened(t, a, "a"), opened(t, b, "b")
	does(t, "Add", l.Add([]byte("1")), api.OK)
	does(t, "Renew", l.Renew(), api.OK)
	a.Crash(0, 0)
	if m.Len() != 1 {
		t.Errorf("Len: %d", m.Len())
	}
	does(t, "Add", m.Add([]byte("2")), api.OK)
	opened(t, b, "b", "2")
}
