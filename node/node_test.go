package node_test

import (
	"bytes"
	"fmt"
	"math"
	"reflect"
	"slices"
	"testing"

	"contra/api"
	"contra/clock"
	"contra/disk"
	"contra/image"
	"contra/item"
	"contra/link"
	"contra/match"
	"contra/msg"
	"contra/node"
	"contra/state"
	"contra/vote"
	"contra/wal"
)

// group is how many entities most tests are about, and so the coordinator's number; far is how far amounts may be apart there.
const (
	group = 3
	far   = 5
)

// wild are numbers inside and outside what is taken.
func wild() []int {
	return []int{math.MinInt, math.MinInt + 1, -2, -1, 0, 1, 2, 3, 4, 5, 7, 8, 9, 10, 1 << 20, 1<<20 + 1, 1<<30 + 1, math.MaxInt - 1, math.MaxInt}
}

// made is a disk with so much room.
func made(t *testing.T, room int) *disk.Disk {
	t.Helper()
	d, e := disk.New(room)
	if e != api.OK {
		t.Fatalf("New %d: %v", room, e)
	}
	return d
}

// opened is the node of the group that a disk tells.
func opened(t *testing.T, d *disk.Disk, me int) *node.Node {
	t.Helper()
	x, e := node.Open(d, me, group, far)
	if x == nil || e != api.OK {
		t.Fatalf("Open %d: %v", me, e)
	}
	return x
}

// fresh is a new node of the group, and its disk, with much room.
func fresh(t *testing.T, me int) (*node.Node, *disk.Disk) {
	t.Helper()
	d := made(t, disk.MaxRoom)
	return opened(t, d, me), d
}

// is holds an answer against the one that is wanted.
func is(t *testing.T, call string, e, want api.Errno) {
	t.Helper()
	if e != want {
		t.Errorf("%s: %v, want %v", call, e, want)
	}
}

// text is all that a node is, for comparing; whether an empty list is nil counts for nothing in it.
func text(s state.State) string { return fmt.Sprintf("%+v", s) }

// stays says that a node is as it was, with as many records, and that its disk tells the same.
func stays(t *testing.T, x *node.Node, d *disk.Disk, was state.State, records int) {
	t.Helper()
	if text(x.State()) != text(was) || x.Records() != records {
		t.Errorf("it is %+v, %d records; want %+v, %d", x.State(), x.Records(), was, records)
	}
	if d.Down() {
		return
	}
	if y := opened(t, d, was.Me); text(y.State()) != text(was) || y.Records() != records {
		t.Errorf("opened anew it is %+v, %d records; want %+v, %d", y.State(), y.Records(), was, records)
	}
}

// does has clients say all that to a node; it has to be taken.
func does(t *testing.T, x *node.Node, list ...api.Msg) {
	t.Helper()
	for _, m := range list {
		if e := x.Do(m); e != api.OK {
			t.Fatalf("Do %+v: %v", m, e)
		}
	}
}

// next is the packet with the next thing that a node hears of another one, which has heard nothing.
func next(x *node.Node, from int, m api.Msg) link.Packet {
	s := x.State()
	return link.Packet{From: from, To: s.Me, Number: s.Links.Peers[from].Heard + 1, Msg: m}
}

// hears has a node hear all that of another one; it has to be taken.
func hears(t *testing.T, x *node.Node, from int, list ...api.Msg) {
	t.Helper()
	for _, m := range list {
		if e := x.Receive(next(x, from, m)); e != api.OK {
			t.Fatalf("Receive %+v: %v", m, e)
		}
	}
}

// name is an item's name.
func name(seller, number int) api.ID { return api.ID{Seller: seller, Number: number} }

// issue, order, propose, about and of are messages; about has no more than what an answer has to have.
func issue(seller, number, buyer int, amount int64) api.Msg {
	return api.Msg{Kind: msg.Issue, ID: name(seller, number), Buyer: buyer, Amount: amount}
}

func order(seller, number int, amount int64) api.Msg {
	return api.Msg{Kind: msg.Order, ID: name(seller, number), Amount: amount}
}

func propose(seller, number, buyer int, amount int64) api.Msg {
	return api.Msg{Kind: msg.Propose, ID: name(seller, number), Buyer: buyer, Amount: amount}
}

func about(kind, seller, number, round int) api.Msg {
	return api.Msg{Kind: kind, ID: name(seller, number), Round: round}
}

func of(kind, cycle int) api.Msg { return api.Msg{Kind: kind, Cycle: cycle} }

// ticks has a node's clock go on so many ticks; nothing may be refused.
func ticks(t *testing.T, x *node.Node, n int) {
	t.Helper()
	for range n {
		if _, e := x.Tick(); e != api.OK {
			t.Fatalf("Tick: %v", e)
		}
	}
}

// said is all that a node has said to another one.
func said(x *node.Node, to int) []api.Msg { return x.State().Links.Peers[to].Said }

// saysAt says with which of the next so many ticks a node says something more to another one.
func saysAt(t *testing.T, x *node.Node, to, many int, want ...int) {
	t.Helper()
	var got []int
	for i := range many {
		was := len(said(x, to))
		ticks(t, x, 1)
		if len(said(x, to)) > was {
			got = append(got, i+1)
		}
	}
	if !slices.Equal(got, want) {
		t.Errorf("in %d ticks something is said at %v, want %v", many, got, want)
	}
}

// busy is the node 0 with items, orders and cycles, and its disk.
func busy(t *testing.T, room int) (*node.Node, *disk.Disk) {
	t.Helper()
	d := made(t, room)
	x := opened(t, d, 0)
	does(t, x, issue(0, 1, 1, 70), issue(0, 2, 2, 80), issue(0, 3, 1, 90), order(1, 1, 30))
	hears(t, x, 1, about(msg.Confirm, 0, 1, 0), propose(1, 1, 0, 28), about(msg.Dispute, 0, 3, 0))
	hears(t, x, 2, about(msg.Dispute, 0, 2, 0))
	does(t, x, api.Msg{Kind: msg.Adjust, ID: name(0, 2), Amount: 60})
	hears(t, x, group, of(msg.Ask, 1))
	return x, d
}

// P21.1: layer 19's New's error goes ahead of the disk's.
func TestOpenRefuses(t *testing.T) {
	down := made(t, 100)
	down.Crash(0, 0)
	for _, me := range wild() {
		for _, n := range wild() {
			for _, far := range []int64{math.MinInt64, -1, 0, 1, math.MaxInt64} {
				_, want := state.New(me, n, far)
				x, e := node.Open(made(t, 100), me, n, far)
				if e != want || (x == nil) != (want != api.OK) {
					t.Errorf("Open %d, %d, %d: %v, %v; want %v", me, n, far, x, e, want)
				}
				if want == api.OK {
					want = api.ErrDown
				}
				if x, e := node.Open(down, me, n, far); x != nil || e != want {
					t.Errorf("Open %d, %d, %d of a disk that is down: %v, %v; want %v", me, n, far, x, e, want)
				}
			}
		}
	}
}

// P21.1
func TestOpenOfNothing(t *testing.T) {
	for n := 1; n <= api.MaxEntity; n++ {
		for me := range n + 1 {
			x, e := node.Open(made(t, 0), me, n, far)
			if e != api.OK {
				t.Fatalf("Open %d, %d: %v", me, n, e)
			}
			want, _ := state.New(me, n, far)
			if text(x.State()) != text(want) || x.Records() != 0 {
				t.Errorf("%d of %d is %+v, %d records", me, n, x.State(), x.Records())
			}
		}
	}
}

// P21.1, P21.2: whenever it is opened it is what it was told, and nothing that was refused counts.
func TestOpenTellsWhatItWas(t *testing.T) {
	x, d := fresh(t, 0)
	want, _ := state.New(0, group, far)
	records := 0
	tell := func(from int, m api.Msg) {
		t.Helper()
		event := state.Event{From: from, Msg: m}
		var got api.Errno
		if from == match.Client {
			got = x.Do(m)
		} else {
			event.Number = want.Links.Peers[from].Heard + 1
			got = x.Receive(link.Packet{From: from, To: 0, Number: event.Number, Msg: m})
		}
		after, e := want.Apply(event)
		is(t, "it is told", got, e)
		if e == api.OK {
			want = after
			records++
		}
		stays(t, x, d, want, records)
	}
	tell(match.Client, issue(0, 1, 1, 70))
	tell(match.Client, issue(0, 1, 1, 70)) // ErrTwice
	tell(match.Client, order(1, 1, 30))
	tell(match.Client, order(0, 1, 30)) // ErrRange
	tell(1, about(msg.Confirm, 0, 1, 0))
	tell(1, about(msg.Confirm, 0, 9, 0)) // it is heard
	tell(1, propose(1, 1, 0, 28))
	tell(group, of(msg.Ask, 1))
	lines := []api.Line{{ID: name(0, 1), Buyer: 1, Amount: 70}, {ID: name(1, 1), Buyer: 0, Amount: 28}}
	tell(group, api.Msg{Kind: msg.Prepare, Cycle: 1, Lines: lines, Nets: []int64{42, -42, 0}})
	if p, _ := want.Parts.Get(1); p.State != vote.Yes {
		t.Errorf("the cycle is %+v", p)
	}
	tell(group, api.Msg{Kind: msg.Decide, Cycle: 1, Yes: true})
	tell(match.Client, api.Msg{Kind: msg.Withdraw, ID: name(0, 1)}) // ErrState
	if y, _ := want.Desk.Book.Get(name(0, 1)); y.State != item.Settled {
		t.Errorf("the item is %+v", y)
	}
}

// P21.1: so is the coordinator.
func TestOpenOfACoordinator(t *testing.T) {
	x, d := fresh(t, group)
	does(t, x, api.Msg{Kind: msg.Start}, api.Msg{Kind: msg.Start, Currency: 3})
	is(t, "a cycle that is open", x.Do(api.Msg{Kind: msg.Start}), api.ErrState)
	for from := range group {
		hears(t, x, from, of(msg.Offer, 1), api.Msg{Kind: msg.Vote, Cycle: 1, Yes: true}, of(msg.Query, 1))
	}
	if got := x.State(); len(got.Chief.Runs) != 2 || !got.Coordinates() {
		t.Errorf("it is %+v", got)
	}
	stays(t, x, d, x.State(), 2+3*group)
}

// P21.1: so is one among as many as there may be.
func TestOpenOfTheGreatestGroup(t *testing.T) {
	const n = api.MaxEntity
	for me := range n + 1 {
		d := made(t, disk.MaxRoom)
		x, _ := node.Open(d, me, n, far)
		for from := range n + 1 {
			if from != me {
				hears(t, x, from, of(msg.Ask, 1+from), propose(from, 1, me, 5))
			}
		}
		want := text(x.State())
		for range 2 {
			y, e := node.Open(d, me, n, far)
			if e != api.OK || text(y.State()) != want {
				t.Fatalf("%d is %+v, %v; want %s", me, y.State(), e, want)
			}
			is(t, "Compact", x.Compact(), api.OK)
		}
	}
}

// step is something that a node is told, or, if more is nil, that its log is renewed.
type step struct {
	from int
	m    *api.Msg
}

// script is what a node is told in order, with the log renewed twice.
func script() []step {
	client := func(m api.Msg) step { return step{match.Client, &m} }
	heard := func(from int, m api.Msg) step { return step{from, &m} }
	return []step{
		client(issue(0, 1, 1, 70)), client(order(1, 1, 30)), heard(1, about(msg.Dispute, 0, 1, 0)), {},
		heard(1, propose(1, 1, 0, 28)), client(api.Msg{Kind: msg.Adjust, ID: name(0, 1), Amount: 60}), heard(group, of(msg.Ask, 1)),
		client(issue(0, 2, 2, 1)), {}, client(issue(0, 3, 2, 1)), heard(1, about(msg.Confirm, 0, 1, 1)), client(order(2, 7, 1)),
	}
}

// does one step with a node.
func (y step) does(x *node.Node) api.Errno {
	switch {
	case y.m == nil:
		return x.Compact()
	case y.from == match.Client:
		return x.Do(*y.m)
	}
	return x.Receive(next(x, y.from, *y.m))
}

// P21.1, P21.2: at whatever byte the disk crashes, it is what it was when it was told the last thing for which it answered OK.
func TestCrashesAtEachByte(t *testing.T) {
	crashes := 0
	for fuse := range 2000 {
		x, d := fresh(t, 0)
		d.Fuse(fuse)
		list, done := script(), 0
		for done < len(list) {
			was, records := x.State(), x.Records()
			e := list[done].does(x)
			if e == api.OK {
				done++
				continue
			}
			crashes++
			is(t, "it crashes", e, api.ErrDown)
			stays(t, x, d, was, records)
			d.Crash([]int{0, fuse % 7, math.MaxInt}[fuse%3], byte(fuse%5))
			d.Up()
			if fuse%2 == 0 {
				x = opened(t, d, 0) // else it goes on by itself
			}
			stays(t, x, d, was, records)
			if t.Failed() {
				t.Fatalf("fuse %d, step %d", fuse, done)
			}
		}
		if !d.Down() && x.Records() != 4 {
			t.Errorf("%d records", x.Records())
		}
		stays(t, x, d, x.State(), 4)
	}
	if crashes < 300 { // else there are more bytes than that
		t.Errorf("%d crashes", crashes)
	}
}

// P21.1
func TestRecords(t *testing.T) {
	x, d := fresh(t, 0)
	check := func(want int) {
		t.Helper()
		stays(t, x, d, x.State(), want)
		_, list, e := wal.Open(d)
		if len(list) != want || e != api.OK {
			t.Errorf("the log has %d records, %v; want %d", len(list), e, want)
		}
	}
	check(0)
	does(t, x, issue(0, 1, 1, 70))
	check(1)
	is(t, "twice", x.Do(issue(0, 1, 1, 70)), api.ErrTwice)
	is(t, "too early", x.Receive(link.Packet{From: 1, Number: 3}), api.ErrState)
	is(t, "nothing", x.Receive(link.Packet{From: 1}), api.OK)
	ticks(t, x, 1)
	check(1)
	hears(t, x, 1, about(msg.Dispute, 0, 1, 0))
	check(2)
	is(t, "old", x.Receive(link.Packet{From: 1, Number: 1, Msg: about(msg.Dispute, 0, 1, 0)}), api.OK)
	check(2)
	ticks(t, x, node.Patience)
	check(3) // it has given the item up
	for range 2 {
		is(t, "Compact", x.Compact(), api.OK)
		check(1)
	}
	does(t, x, issue(0, 2, 1, 70))
	check(2)
	x = opened(t, d, 0)
	does(t, x, issue(0, 3, 1, 70))
	check(3)
	is(t, "Compact", x.Compact(), api.OK)
	check(1)
}

// down says that all calls but State and Records answer ErrDown, and do nothing.
func down(t *testing.T, x *node.Node, was state.State, records int) {
	t.Helper()
	for range 2 * node.Cycles {
		if list, e := x.Tick(); len(list) != 0 || e != api.ErrDown {
			t.Errorf("Tick: %v, %v", list, e)
		}
		is(t, "Do of what can't be done", x.Do(api.Msg{}), api.ErrDown)
		is(t, "Do of a Due", x.Do(api.Msg{Kind: msg.Due}), api.ErrDown)
		is(t, "Receive", x.Receive(link.Packet{From: 1, Heard: math.MaxInt}), api.ErrDown)
		is(t, "Receive of another one's", x.Receive(link.Packet{From: 1, To: 7}), api.ErrDown)
		is(t, "Compact", x.Compact(), api.ErrDown)
		is(t, "Receive of the next", x.Receive(next(x, 1, order(1, 1, 1))), api.ErrDown)
		is(t, "Do", x.Do(issue(0, 9, 1, 70)), api.ErrDown)
	}
	if text(x.State()) != text(was) || x.Records() != records {
		t.Errorf("it is %+v, %d records; want %+v, %d", x.State(), x.Records(), was, records)
	}
}

// P21.1: while its disk is down nothing is done, and no time goes by.
func TestWhileItsDiskIsDown(t *testing.T) {
	x, d := busy(t, disk.MaxRoom)
	was, records := x.State(), x.Records()
	for _, n := range []int{0, node.Patience - 1} { // the item 3 is due with the next tick
		ticks(t, x, n)
		d.Crash(0, 0)
		down(t, x, was, records)
		d.Up()
	}
	stays(t, x, d, was, records)
	list, e := x.Tick()
	if e != api.OK || !slices.ContainsFunc(list, func(p link.Packet) bool { return p.To == 1 && p.Number == 1 }) {
		t.Errorf("what is said to 1 is sent no more: %+v, %v", list, e)
	}
	if y, _ := x.State().Desk.Book.Get(name(0, 3)); y.State != item.Cancelled {
		t.Errorf("the item is %+v", y)
	}
	d.Fuse(7)
	was, records = x.State(), x.Records()
	is(t, "a record that is cut off", x.Do(issue(0, 9, 1, 70)), api.ErrDown)
	down(t, x, was, records)
}

// P21.1: if a piece of a record stands there, and nobody has opened it anew, what it is told from then on is there for sure all the same.
func TestItGoesOnBehindAPieceOfARecord(t *testing.T) {
	for fuse := range 20 {
		x, d := busy(t, disk.MaxRoom)
		was, records := x.State(), x.Records()
		d.Fuse(fuse)
		is(t, "it is cut off", x.Do(issue(0, 9, 1, 70)), api.ErrDown)
		d.Up()
		is(t, "what can't be done", x.Do(issue(0, 1, 1, 70)), api.ErrTwice)
		stays(t, x, d, was, records)
		does(t, x, issue(0, 8, 1, 70), issue(0, 9, 1, 70))
		stays(t, x, d, x.State(), records+2)
		// And the disk may crash once more while that piece is cut off.
		d.Fuse(fuse)
		is(t, "it is cut off", x.Do(issue(0, 10, 1, 70)), api.ErrDown)
		d.Up()
		d.Fuse(3)
		is(t, "so is what was there", x.Do(issue(0, 10, 1, 70)), api.ErrDown)
		d.Up()
		does(t, x, issue(0, 10, 1, 70))
		stays(t, x, d, x.State(), records+3)
	}
}

// P21.1: of another log nothing is promised, but that Open ends, and so do the calls of what it answers.
func TestOpenOfOtherLogs(t *testing.T) {
	seller, _ := busy(t, disk.MaxRoom)
	b, _ := image.Write(seller.State())
	var m []byte
	m, _ = msg.Write(m, issue(0, 1, 1, 70))
	var list [][]byte
	for kind := range 5 {
		for _, body := range [][]byte{nil, b, m, b[:len(b)-1], m[:len(m)-1], append([]byte{1, 0}, m...), append([]byte{1, 0, 0}, m...), {255}, bytes.Repeat([]byte{255}, 20)} {
			list = append(list, append([]byte{byte(kind)}, body...), body)
		}
	}
	for i := range list {
		for n := 1; n <= api.MaxEntity; n++ {
			for me := range n + 1 {
				d := made(t, 1<<16)
				l, _, _ := wal.Open(d)
				is(t, "Add", l.Add(list[i]), api.OK)
				is(t, "Add", l.Add(list[(i*7+me)%len(list)]), api.OK)
				if x, e := node.Open(d, me, n, far); e == api.OK {
					anything(x, me, n)
				} else if x != nil {
					t.Errorf("Open: %v beside %v", x, e)
				}
			}
		}
	}
	for n := 1; n <= api.MaxEntity; n++ {
		for me := range n + 1 {
			_, d := busy(t, 1<<16)
			for range 2 {
				if x, e := node.Open(d, me, n, 2); e == api.OK {
					anything(x, me, n)
				}
				_, d = busy(t, 1<<16)
				is(t, "Compact", opened(t, d, 0).Compact(), api.OK)
			}
		}
	}
}

// anything calls all calls of a node.
func anything(x *node.Node, me, n int) {
	_, _, _ = x.Do(issue(me, 30, 0, 1)), x.Do(order(n-1, 1, 1)), x.Compact()
	for from := range n + 1 {
		s := x.State()
		for number := range 3 {
			x.Receive(link.Packet{From: from, To: me, Number: number, Heard: 5, Msg: of(msg.Ask, 1)})
			if from < len(s.Links.Peers) {
				x.Receive(link.Packet{From: from, To: me, Number: s.Links.Peers[from].Heard + number, Heard: 5, Msg: about(msg.Dispute, me, 30, 0)})
			}
		}
	}
	for range 10 {
		x.Tick()
	}
}

// refuses says that a node answers that error, and is as it was.
func refuses(t *testing.T, call string, x *node.Node, d *disk.Disk, e func() api.Errno, want api.Errno) {
	t.Helper()
	was, records, sure := x.State(), x.Records(), d.Sure()
	is(t, call, e(), want)
	stays(t, x, d, was, records)
	if d.Sure() != sure {
		t.Errorf("%s: %d bytes are sure, %d were", call, d.Sure(), sure)
	}
}

// spoilt are messages that can't be written; with them an error that comes of nothing else.
func spoilt(kind int) map[string]api.Msg {
	m := api.Msg{Kind: kind, ID: name(0, 77)}
	cycle, lines, nets, number := m, m, m, m
	cycle.Cycle = -1
	number.Lines = []api.Line{{Buyer: 1<<30 + 1}}
	lines.Lines, lines.Cycle = make([]api.Line, msg.MaxLines+1), 1<<30+1
	nets.Nets = make([]int64, msg.MaxNets+1)
	return map[string]api.Msg{"a cycle below 0": cycle, "a line's number": number, "too many lines": lines, "too many nets": nets}
}

// P21.2: the order of errors, of what a client says: that it can't be done, that it can't be written, that there is no room.
func TestErrorsOfDo(t *testing.T) {
	x, d := busy(t, disk.MaxRoom)
	full, none := busy(t, 400)
	for i := 1; full.Do(order(2, i, 1)) == api.OK; i++ {
	}
	do := func(x *node.Node, m api.Msg) func() api.Errno { return func() api.Errno { return x.Do(m) } }
	for call, m := range spoilt(msg.Adjust) {
		refuses(t, call+", and it can't be done", x, d, do(x, m), api.ErrMissing)
		refuses(t, call+", nor is there room", full, none, do(full, m), api.ErrMissing)
		m.Kind, m.ID, m.Amount = msg.Order, name(1, 9), 30
		want := api.ErrRange
		if len(m.Lines) > msg.MaxLines || len(m.Nets) > msg.MaxNets {
			want = api.ErrLong
		}
		refuses(t, call, x, d, do(x, m), want)
		refuses(t, call+", nor is there room", full, none, do(full, m), want)
	}
	long := order(1, 9, 30)
	long.Lines = make([]api.Line, msg.MaxLines)
	for i := range long.Lines {
		long.Lines[i] = api.Line{ID: name(1<<20, 1<<20), Buyer: 1 << 20, Amount: math.MaxInt64}
	}
	refuses(t, "too long for a record", x, d, do(x, long), api.ErrLong)
	refuses(t, "too long for a record, nor is there room", full, none, do(full, long), api.ErrLong)
	refuses(t, "there is no room", full, none, do(full, issue(0, 77, 1, 1<<40)), api.ErrFull)
	refuses(t, "there is no room, and it can't be done", full, none, do(full, issue(0, 1, 1, 1<<40)), api.ErrTwice)
	does(t, x, issue(0, 77, 1, 1<<40), order(1, 9, 30))
}

// P21.2: what a node says, and can't be done, is heard; but not what can't be written, or has no room.
func TestErrorsOfWhatIsHeard(t *testing.T) {
	x, d := busy(t, disk.MaxRoom)
	full, none := busy(t, 400)
	for i := 1; full.Do(order(2, i, 1)) == api.OK; i++ {
	}
	hear := func(x *node.Node, m api.Msg) func() api.Errno {
		return func() api.Errno { return x.Receive(next(x, 2, m)) }
	}
	for call, m := range spoilt(msg.Cancel) {
		want := api.ErrRange
		if len(m.Lines) > msg.MaxLines || len(m.Nets) > msg.MaxNets {
			want = api.ErrLong
		}
		refuses(t, call, x, d, hear(x, m), want)
		refuses(t, call+", nor is there room", full, none, hear(full, m), want)
	}
	for _, kind := range []int{math.MinInt, -1, 0, 17, 1 << 20, math.MaxInt} {
		refuses(t, "no such kind", x, d, hear(x, api.Msg{Kind: kind}), api.ErrKind)
	}
	refuses(t, "there is no room", full, none, hear(full, about(msg.Cancel, 2, 77, 0)), api.ErrFull)
	for i, m := range []api.Msg{about(msg.Cancel, 2, 77, 0), issue(0, 1, 1, 1), {Kind: msg.Due}, {Kind: msg.Start}, order(1, 1<<30, math.MinInt64)} {
		records := x.Records()
		hears(t, x, 2, m)
		stays(t, x, d, x.State(), records+1)
		if got := x.State().Links.Peers[2].Heard; got != i+2 {
			t.Errorf("%d are heard", got)
		}
	}
}

// P21.2: a Due is said by the node's own clock alone.
func TestDoOfADue(t *testing.T) {
	x, d := busy(t, disk.MaxRoom)
	for _, m := range append(x.State().Dues(), of(msg.Due, 9), of(msg.Due, -1), about(msg.Due, 0, 1, 0)) {
		refuses(t, "a Due", x, d, func() api.Errno { return x.Do(m) }, api.ErrKind)
	}
	y, on := fresh(t, group)
	does(t, y, api.Msg{Kind: msg.Start})
	refuses(t, "a Due of the coordinator", y, on, func() api.Errno { return y.Do(of(msg.Due, 1)) }, api.ErrKind)
}

// P21.2: with no room for a whole record nothing of it is told; with just as much it is.
func TestRoomForARecord(t *testing.T) {
	x, d := fresh(t, 0)
	does(t, x, issue(0, 1, 1, 70))
	takes := d.Sure()
	for room := range 3 * takes {
		d := made(t, room)
		x := opened(t, d, 0)
		for i := range 3 {
			was := x.State()
			e := x.Do(issue(0, i+1, 1, 70))
			if fits := (i+1)*takes <= room; fits != (e == api.OK) || !fits && e != api.ErrFull {
				t.Errorf("room %d, the record %d: %v", room, i, e)
			}
			if e != api.OK {
				stays(t, x, d, was, x.Records())
			}
		}
	}
}

// P21.2
func TestCompact(t *testing.T) {
	x, d := busy(t, disk.MaxRoom)
	for i := range 300 {
		does(t, x, order(1, 1+i%3, int64(1+i)))
	}
	was, before := x.State(), d.Sure()
	is(t, "Compact", x.Compact(), api.OK)
	stays(t, x, d, was, 1)
	if d.Sure() >= before/2 {
		t.Errorf("the log has %d bytes, it had %d", d.Sure(), before)
	}
	for i := range 5 {
		does(t, x, order(1, 1, int64(1+i)))
		stays(t, x, d, x.State(), 2+i)
	}
	y := opened(t, d, 0)
	is(t, "Compact", y.Compact(), api.OK)
	stays(t, y, d, y.State(), 1)
	c, on := fresh(t, group)
	does(t, c, api.Msg{Kind: msg.Start, Currency: 2})
	hears(t, c, 1, of(msg.Offer, 1))
	is(t, "Compact", c.Compact(), api.OK)
	stays(t, c, on, c.State(), 1)
}

// P21.2: what it waits for stays due as it was.
func TestCompactLeavesWhatIsDue(t *testing.T) {
	x, _ := busy(t, disk.MaxRoom)
	ticks(t, x, 3)
	is(t, "Compact", x.Compact(), api.OK)
	is(t, "Receive", x.Receive(link.Packet{From: 1, Heard: 1}), api.OK)
	is(t, "Compact", x.Compact(), api.OK)
	saysAt(t, x, 1, 4, 2)
	list, _ := x.Tick()
	if list[0].To != 1 || list[0].Number != 2 {
		t.Errorf("the first packet is %+v", list[0])
	}
}

// P21.2
func TestCompactRefuses(t *testing.T) {
	for room := range 60 {
		d := made(t, room)
		x := opened(t, d, 0)
		if e := x.Compact(); e == api.ErrFull {
			refuses(t, "there is no room", x, d, x.Compact, api.ErrFull)
		} else if e != api.OK || room < 10 || d.Sure() > room {
			t.Errorf("room %d: %v", room, e)
		}
	}
	x, d := fresh(t, 0)
	for i := range 1024 {
		does(t, x, issue(0, 1<<20-i, 1, 1<<50))
	}
	refuses(t, "it has too much for a record", x, d, x.Compact, api.ErrLong)
	does(t, x, order(1, 1, 30))
	stays(t, x, d, x.State(), 1025)
}

// P21.2: wherever it crashes there is what was there, or just what it is.
func TestCompactAtEachByte(t *testing.T) {
	crashes := 0
	for fuse := range 500 {
		x, d := busy(t, disk.MaxRoom)
		was, records := x.State(), x.Records()
		d.Fuse(fuse)
		e := x.Compact()
		if e == api.OK {
			stays(t, x, d, was, 1)
			continue
		}
		crashes++
		is(t, "Compact", e, api.ErrDown)
		stays(t, x, d, was, records)
		d.Up()
		stays(t, x, d, was, records)
		does(t, x, issue(0, 9, 1, 1))
		stays(t, x, d, x.State(), records+1)
	}
	if crashes < 50 || crashes > 450 {
		t.Errorf("%d crashes", crashes)
	}
}

// P21.3
func TestReceiveRefusesOthers(t *testing.T) {
	for me := range group + 1 {
		x, d := fresh(t, me)
		for _, from := range wild() {
			for _, to := range wild() {
				right := to == me && from != me && from >= 0 && from <= group
				for _, number := range []int{-1, 0, 1, 3} {
					p := link.Packet{From: from, To: to, Number: number, Heard: 1, Msg: order(1, 1, 1)}
					switch {
					case !right:
						refuses(t, "another one's", x, d, func() api.Errno { return x.Receive(p) }, api.ErrOther)
					case number < 0 || number > 2:
						refuses(t, "not in its turn", x, d, func() api.Errno { return x.Receive(p) }, api.ErrState)
					default:
						is(t, "its own", x.Receive(p), api.OK)
					}
				}
			}
		}
	}
}

// P21.3: each thing is heard in its turn, once.
func TestReceiveInItsTurn(t *testing.T) {
	x, d := fresh(t, 1)
	list := []api.Msg{propose(0, 1, 1, 70), propose(0, 2, 1, 80), about(msg.Cancel, 0, 1, 0)}
	for i := range list {
		for _, number := range append(wild(), i+1) {
			p := link.Packet{From: 0, To: 1, Number: number, Msg: list[i]}
			call := func() api.Errno { return x.Receive(p) }
			switch {
			case number < 0 || number > i+1:
				refuses(t, "not in its turn", x, d, call, api.ErrState)
			case number <= i:
				refuses(t, "nothing, or what was heard", x, d, call, api.OK)
			}
		}
		is(t, "the next", x.Receive(link.Packet{From: 0, To: 1, Number: i + 1, Msg: list[i]}), api.OK)
		stays(t, x, d, x.State(), i+1)
	}
	if y, _ := x.State().Desk.Book.Get(name(0, 1)); y.State != item.Cancelled || len(said(x, 0)) != 2 {
		t.Errorf("the item is %+v", y)
	}
	is(t, "of another one", x.Receive(link.Packet{From: 2, To: 1, Number: 1, Msg: propose(0, 3, 1, 5)}), api.OK)
	if _, found := x.State().Desk.Book.Get(name(0, 3)); found {
		t.Error("2 proposes what 0 sells")
	}
}

// sent is the numbers of what is sent to a node with the next tick, and how much the sender has heard of it.
func sent(t *testing.T, x *node.Node, to int) (numbers []int, heard int) {
	t.Helper()
	list, e := x.Tick()
	if e != api.OK {
		t.Fatalf("Tick: %v", e)
	}
	for _, p := range list {
		if p.To == to {
			numbers, heard = append(numbers, p.Number), p.Heard
		}
	}
	return numbers, heard
}

// P21.3: how much another one has heard: never less than was known, never more than was said.
func TestHowMuchIsHeard(t *testing.T) {
	x, _ := fresh(t, 0)
	does(t, x, issue(0, 1, 1, 1), issue(0, 2, 1, 1), issue(0, 3, 1, 1), issue(0, 4, 2, 1))
	check := func(call string, p link.Packet, e api.Errno, want ...int) {
		t.Helper()
		is(t, call, x.Receive(p), e)
		if got, _ := sent(t, x, 1); !slices.Equal(got, want) {
			t.Errorf("%s: %v are sent, want %v", call, got, want)
		}
		if got, _ := sent(t, x, 2); !slices.Equal(got, []int{1}) {
			t.Errorf("%s: %v are sent to 2", call, got)
		}
	}
	check("nothing", link.Packet{From: 1}, api.OK, 1, 2, 3)
	check("of another one", link.Packet{From: group, Heard: 2}, api.OK, 1, 2, 3)
	check("below 0", link.Packet{From: 1, Heard: math.MinInt}, api.OK, 1, 2, 3)
	check("to another one", link.Packet{From: 1, To: 2, Heard: 2}, api.ErrOther, 1, 2, 3)
	check("of itself", link.Packet{From: 0, Heard: 2}, api.ErrOther, 1, 2, 3)
	check("one", link.Packet{From: 1, Heard: 1}, api.OK, 2, 3)
	check("fewer", link.Packet{From: 1, Heard: 0}, api.OK, 2, 3)
	check("two, and not in its turn", link.Packet{From: 1, Heard: 2, Number: 2}, api.ErrState, 3)
	check("below 0", link.Packet{From: 1, Heard: -1}, api.OK, 3)
	check("more than was said, and what is refused", link.Packet{From: 1, Heard: 9, Number: 1}, api.ErrKind, 0)
	does(t, x, issue(0, 5, 1, 1)) // that it hasn't heard, whatever it said
	check("three", link.Packet{From: 1, Heard: 3}, api.OK, 4)
	check("more than was said, and the next", link.Packet{From: 1, Heard: math.MaxInt, Number: 1, Msg: about(msg.Confirm, 0, 1, 0)}, api.OK, 0)
	if _, heard := sent(t, x, 1); heard != 1 {
		t.Errorf("it has heard %d", heard)
	}
	check("what was heard", link.Packet{From: 1, Heard: 1, Number: 1}, api.OK, 0)
}

// P21.3: of what it says at that which it hears now, the other one can't have heard by then.
func TestHeardAheadOfWhatIsSaid(t *testing.T) {
	x, _ := fresh(t, 1)
	p := link.Packet{From: 0, To: 1, Number: 1, Heard: 5, Msg: propose(0, 1, 1, 70)}
	is(t, "Receive", x.Receive(p), api.OK)
	if got, heard := sent(t, x, 0); !slices.Equal(got, []int{1}) || heard != 1 {
		t.Errorf("%v are sent, %d heard", got, heard)
	}
	is(t, "once more", x.Receive(p), api.OK)
	if got, _ := sent(t, x, 0); !slices.Equal(got, []int{0}) {
		t.Errorf("%v are sent", got)
	}
}

// P21.3: it isn't in the log: opened anew, it knows of nothing that was heard.
func TestOpenKnowsOfNothingHeard(t *testing.T) {
	x, d := fresh(t, 0)
	does(t, x, issue(0, 1, 1, 1))
	is(t, "Receive", x.Receive(link.Packet{From: 1, Heard: 1}), api.OK)
	if got, _ := sent(t, x, 1); !slices.Equal(got, []int{0}) {
		t.Errorf("%v are sent", got)
	}
	if got, _ := sent(t, opened(t, d, 0), 1); !slices.Equal(got, []int{1}) {
		t.Errorf("opened anew: %v are sent", got)
	}
}

// P21.4: to all others from 0 on, what each hasn't heard.
func TestWhatIsSent(t *testing.T) {
	for me := range group + 1 {
		x, _ := fresh(t, me)
		if me == group {
			does(t, x, api.Msg{Kind: msg.Start}, api.Msg{Kind: msg.Start, Currency: 1})
		} else {
			does(t, x, issue(me, 1, (me+1)%group, 7), issue(me, 2, (me+2)%group, 7), issue(me, 3, (me+1)%group, 7))
		}
		hears(t, x, (me+1)%group, of(msg.Query, 1))
		for range 2 {
			list, e := x.Tick()
			if e != api.OK {
				t.Errorf("Tick: %v", e)
			}
			var want []link.Packet
			for to := range group + 1 {
				if to != me {
					want = append(want, x.State().Links.Packets(to, 0)...)
				}
			}
			if fmt.Sprint(list) != fmt.Sprint(want) {
				t.Errorf("%d sends %+v, want %+v", me, list, want)
			}
		}
	}
}

// P21.1, P21.4: the chapter's example.
func TestOpenedAnewItProposes(t *testing.T) {
	x, d := fresh(t, 0)
	does(t, x, issue(0, 1, 1, 70))
	d.Crash(0, 0)
	d.Up()
	list, e := opened(t, d, 0).Tick()
	if e != api.OK || len(list) != group || list[0].To != 1 || list[0].Number != 1 || list[0].Msg.Kind != msg.Propose {
		t.Errorf("Tick: %+v, %v", list, e)
	}
}

// disputed is 0, which has sold so many items to 1, all of which it is told to be disputed.
func disputed(t *testing.T, n int) (*node.Node, *disk.Disk) {
	t.Helper()
	x, d := fresh(t, 0)
	for i := range n {
		does(t, x, issue(0, i+1, 1, 70))
	}
	for i := range n {
		hears(t, x, 1, about(msg.Dispute, 0, i+1, 0))
	}
	return x, d
}

// stateOf is the state of an item that 0 sells.
func stateOf(x *node.Node, number int) int {
	y, _ := x.State().Desk.Book.Get(name(0, number))
	return y.State
}

// P21.4: an item is due Patience ticks after it began to wait.
func TestItemsAreDue(t *testing.T) {
	if node.Patience != 5 || node.Cycles != 8 {
		t.Errorf("Patience %d, Cycles %d", node.Patience, node.Cycles)
	}
	for before := range 12 {
		x, _ := fresh(t, 0)
		does(t, x, issue(0, 1, 1, 70))
		ticks(t, x, before)
		hears(t, x, 1, about(msg.Dispute, 0, 1, 0))
		ticks(t, x, 4)
		if stateOf(x, 1) != item.Disputed {
			t.Errorf("too early: %d", stateOf(x, 1))
		}
		list, e := x.Tick()
		if stateOf(x, 1) != item.Cancelled || e != api.OK {
			t.Errorf("it is %d, %v", stateOf(x, 1), e)
		}
		// What is said with a tick is sent with it.
		if !slices.ContainsFunc(list, func(p link.Packet) bool { return p.To == 1 && p.Msg.Kind == msg.Cancel }) {
			t.Errorf("%+v is sent", list)
		}
		saysAt(t, x, 1, 30)
	}
}

// P21.4: who buys doesn't wait, nor does what isn't disputed.
func TestWhatIsNotWaitedFor(t *testing.T) {
	x, d := fresh(t, 0)
	does(t, x, issue(0, 1, 1, 70), issue(0, 2, 1, 70))
	hears(t, x, 1, about(msg.Confirm, 0, 2, 0), propose(1, 1, 0, 28))
	was := x.State()
	saysAt(t, x, 1, 30)
	stays(t, x, d, was, 4)
}

// P21.4: what it waits for no more isn't due; in another round it is waited for anew.
func TestWaitsEnd(t *testing.T) {
	x, _ := disputed(t, 2)
	ticks(t, x, 4)
	does(t, x, api.Msg{Kind: msg.Adjust, ID: name(0, 1), Amount: 60}, api.Msg{Kind: msg.Withdraw, ID: name(0, 2)})
	records := x.Records()
	saysAt(t, x, 1, 3)
	hears(t, x, 1, about(msg.Dispute, 0, 1, 1))
	saysAt(t, x, 1, 20, 5)
	if x.Records() != records+2 {
		t.Errorf("it was told %d things", x.Records()-records)
	}
	// With just the tick ahead of it: disputed, adjusted, and disputed at once.
	x, _ = disputed(t, 1)
	ticks(t, x, 4)
	does(t, x, api.Msg{Kind: msg.Adjust, ID: name(0, 1), Amount: 60})
	hears(t, x, 1, about(msg.Dispute, 0, 1, 1))
	saysAt(t, x, 1, 20, 5)
}

// P21.4: one thing is done with a tick: the first one, in the order in which they were due.
func TestOneThingATick(t *testing.T) {
	x, _ := fresh(t, 0)
	for i := range 5 {
		does(t, x, issue(0, i+1, 1, 70))
	}
	for i, number := range []int{4, 2, 5, 1, 3} { // 4 and 2 are due at once, then 5, 1 and 3
		hears(t, x, 1, about(msg.Dispute, 0, number, 0))
		if i == 1 {
			ticks(t, x, 1)
		}
	}
	ticks(t, x, 3)
	for _, number := range []int{4, 2, 5, 1, 3} {
		was := len(said(x, 1))
		ticks(t, x, 1)
		if list := said(x, 1); len(list) != was+1 || list[was].Number != number || list[was].Kind != msg.Cancel {
			t.Errorf("behind %d things it says %+v, want %d given up", was, list[was:], number)
		}
	}
}

// P21.4: what was done, and is waited for no more, takes no turn of others.
func TestWhatWasDoneTakesNoTurn(t *testing.T) {
	x, _ := fresh(t, 0)
	const items = 20
	for i := range items {
		does(t, x, issue(0, i+1, 1, 70))
	}
	for i := range items {
		hears(t, x, 1, about(msg.Dispute, 0, i+1, 0))
	}
	hears(t, x, group, of(msg.Ask, 1))
	ticks(t, x, 4)
	first := 1 + items // all items are due ahead of the cycle
	saysAt(t, x, group, 50, first, first+8, first+16, first+24)
}

// P21.4: of what is due, and wasn't done yet, what is waited for no more is passed over.
func TestWhatIsDueAndNotWaitedForIsPassedOver(t *testing.T) {
	x, _ := disputed(t, 4)
	ticks(t, x, 5)
	does(t, x, api.Msg{Kind: msg.Withdraw, ID: name(0, 2)})
	hears(t, x, 1, about(msg.Confirm, 0, 3, 0)) // that changes nothing
	ticks(t, x, 1)
	for i, want := range []int{item.Cancelled, item.Cancelled, item.Cancelled, item.Disputed} {
		if got := stateOf(x, i+1); got != want {
			t.Errorf("%d is %d, want %d", i+1, got, want)
		}
	}
	saysAt(t, x, 1, 20, 1)
}

// P21.4: a cycle is due after Cycles ticks, and once more after as many, until it is decided.
func TestCyclesAreDue(t *testing.T) {
	for before := range 12 {
		x, _ := fresh(t, 0)
		ticks(t, x, before)
		hears(t, x, group, of(msg.Ask, 1))
		saysAt(t, x, group, 2)
		hears(t, x, group, of(msg.Prepare, 1)) // it waits for that cycle all the same
		saysAt(t, x, group, 23, 6, 14, 22)
		hears(t, x, group, of(msg.Decide, 1))
		saysAt(t, x, group, 30)
	}
}

// P21.4: the coordinator ends its cycles likewise.
func TestTheCoordinatorsCyclesAreDue(t *testing.T) {
	x, _ := fresh(t, group)
	does(t, x, api.Msg{Kind: msg.Start}, api.Msg{Kind: msg.Start, Currency: 1})
	ticks(t, x, 3)
	does(t, x, api.Msg{Kind: msg.Start, Currency: 2}, api.Msg{Kind: msg.Start, Currency: 3})
	for from := range group {
		hears(t, x, from, of(msg.Offer, 3))
	}
	for from := range group {
		hears(t, x, from, api.Msg{Kind: msg.Vote, Cycle: 3, Yes: true})
	}
	saysAt(t, x, 1, 40, 5, 6, 8)
	for i, m := range said(x, 0)[5:] { // behind what it asked, and reckoned
		if want := []int{3, 1, 2, 4}[i]; m.Kind != msg.Decide || m.Cycle != want || m.Yes != (want == 3) {
			t.Errorf("it says %+v, want that %d is decided", m, want)
		}
	}
}

// P21.4: items and cycles are due in one order.
func TestItemsAndCyclesAreDueInOneOrder(t *testing.T) {
	x, _ := fresh(t, 0)
	does(t, x, issue(0, 1, 1, 70), issue(0, 2, 1, 70), issue(0, 3, 1, 70))
	hears(t, x, group, of(msg.Ask, 1))
	ticks(t, x, 2)
	hears(t, x, 1, about(msg.Dispute, 0, 3, 0)) // due at 7
	ticks(t, x, 1)
	hears(t, x, 1, about(msg.Dispute, 0, 2, 0)) // due at 8, as is the cycle
	hears(t, x, group, of(msg.Ask, 2))          // due at 11
	ticks(t, x, 3)
	hears(t, x, 1, about(msg.Dispute, 0, 1, 0)) // due at 11, behind that
	var got []string
	for i := range 12 {
		items, cycles := len(said(x, 1)), len(said(x, group))
		ticks(t, x, 1)
		for _, m := range slices.Concat(said(x, 1)[items:], said(x, group)[cycles:]) {
			got = append(got, fmt.Sprint(i+7, ":", m.Number, m.Cycle))
		}
	}
	if want := "[7:3 0 8:0 1 9:2 0 11:0 2 12:1 0 16:0 1]"; fmt.Sprint(got) != want {
		t.Errorf("due are %v, want %v", got, want)
	}
}

// P21.4: opened anew it begins to wait for all then, in the order of layer 19's Dues.
func TestOpenedAnewItBeginsToWait(t *testing.T) {
	x, d := fresh(t, 0)
	does(t, x, issue(0, 1, 1, 70), issue(0, 2, 1, 70))
	hears(t, x, 1, about(msg.Dispute, 0, 2, 0))
	hears(t, x, group, of(msg.Ask, 2), of(msg.Ask, 1))
	ticks(t, x, 4)
	hears(t, x, 1, about(msg.Dispute, 0, 1, 0))
	x = opened(t, d, 0)
	saysAt(t, x, 1, 7, 5, 6)
	if list := said(x, 1); list[2].Number != 1 || list[3].Number != 2 {
		t.Errorf("it says %+v", list)
	}
	saysAt(t, x, group, 10, 1, 2, 9, 10)
	if list := said(x, group); list[2].Cycle != 1 || list[3].Cycle != 2 {
		t.Errorf("it says %+v", list)
	}
}

// P21.4: what it is told, and can't be done, is due once more Cycles ticks later; with that tick nothing is refused, and others have their turn.
func TestWhatHasNoRoomIsDueOnceMore(t *testing.T) {
	d := made(t, 300)
	x := opened(t, d, 0)
	does(t, x, issue(0, 1, 1, 70), issue(0, 2, 1, 70))
	hears(t, x, 1, about(msg.Dispute, 0, 1, 0), about(msg.Dispute, 0, 2, 0))
	for x.Do(order(1, 1, 1<<50)) == api.OK || x.Do(order(1, 1, 1)) == api.OK {
	}
	was, records := x.State(), x.Records()
	saysAt(t, x, 1, 10)
	stays(t, x, d, was, records)
	is(t, "Compact", x.Compact(), api.OK)
	saysAt(t, x, 1, 30, 3, 4) // at 13 and 14 of all
	if stateOf(x, 1) != item.Cancelled || stateOf(x, 2) != item.Cancelled {
		t.Errorf("it is %+v", x.State())
	}
}

// P21.4, rule 3: if the disk goes down by a tick, that is refused: nothing has changed, and no time has gone by.
func TestTheDiskGoesDownByATick(t *testing.T) {
	for fuse := range 15 {
		x, d := disputed(t, 1)
		ticks(t, x, 2)
		does(t, x, issue(0, 2, 1, 70))
		hears(t, x, 1, about(msg.Dispute, 0, 2, 0))
		ticks(t, x, 2)
		was, records := x.State(), x.Records()
		for range 3 {
			d.Fuse(fuse)
			if list, e := x.Tick(); len(list) != 0 || e != api.ErrDown || !d.Down() {
				t.Fatalf("fuse %d: %v, %v", fuse, list, e)
			}
			down(t, x, was, records)
			d.Up()
			stays(t, x, d, was, records)
		}
		saysAt(t, x, 1, 10, 1, 3)
	}
	x, d := disputed(t, 1)
	d.Fuse(0)
	ticks(t, x, 4) // as long as nothing is written the disk stays up
	if _, e := x.Tick(); e != api.ErrDown {
		t.Errorf("Tick: %v", e)
	}
	d.Up()
	x = opened(t, d, 0)
	saysAt(t, x, 1, 10, 5)
}

// P21.4: all that it waits for is due in its time, also where that is more than layer 8's clock has room for; and what can't be said is done without an error.
func TestMoreIsWaitedForThanAClockHasRoomFor(t *testing.T) {
	x, d := fresh(t, 0)
	const items = 3
	for i := range items {
		does(t, x, issue(0, i+1, 1, 70))
	}
	for i := range link.MaxSaid {
		if e := x.Receive(link.Packet{From: group, Number: i + 1, Msg: of(msg.Ask, i+1)}); e != api.OK {
			t.Fatalf("Receive: %v", e)
		}
	}
	ticks(t, x, 2)
	for i := range items {
		hears(t, x, 1, about(msg.Dispute, 0, i+1, 0))
	}
	if got := len(x.State().Dues()); got != link.MaxSaid+items || got <= clock.MaxDues {
		t.Fatalf("it waits for %d things", got)
	}
	saysAt(t, x, 1, 10, 5, 6, 7) // with the tick behind the first one the cycles are due, too, but later than these
	was, records := x.State(), x.Records()
	ticks(t, x, 20)
	stays(t, x, d, was, records)
}

// P1
func TestAllCallsEnd(t *testing.T) {
	for _, me := range []int{0, group} {
		x, _ := fresh(t, me)
		for kind := -1; kind < 19; kind++ {
			for _, n := range wild() {
				m := api.Msg{Kind: kind, ID: name(n, 1), Buyer: n, Currency: n, Cycle: n, Round: n, Amount: int64(n), Lines: make([]api.Line, 2), Nets: []int64{int64(n)}}
				o := api.Msg{Kind: kind, ID: name(0, n), Buyer: 1, Currency: 1, Cycle: 1, Amount: 5, Yes: true}
				for _, m := range []api.Msg{m, o} {
					x.Do(m)
					for from := -1; from <= group+1; from++ {
						x.Receive(link.Packet{From: from, To: me, Number: n, Heard: n, Msg: m})
						x.Receive(link.Packet{From: n, To: from, Number: n, Heard: n, Msg: m})
						if from >= 0 && from <= group {
							p := next(x, from, m)
							p.Heard = n
							x.Receive(p)
						}
					}
				}
				x.Tick()
			}
			x.Compact()
		}
		if x.Records() == 0 {
			t.Error("it was told nothing")
		}
	}
}

// scribble changes all that can be reached from what was answered, or handed in, the spare room too.
func scribble(v reflect.Value) {
	switch v.Kind() {
	case reflect.Slice:
		v = v.Slice(0, v.Cap())
		for i := range v.Len() {
			scribble(v.Index(i))
		}
	case reflect.Struct:
		for i := range v.NumField() {
			scribble(v.Field(i))
		}
	case reflect.Int, reflect.Int64:
		if v.CanSet() {
			v.SetInt(v.Int() + 1)
		}
	case reflect.Bool:
		if v.CanSet() {
			v.SetBool(!v.Bool())
		}
	}
}

// P2: what is answered is the caller's: whatever he does with it, the node stays as it is.
func TestWhatIsAnsweredIsNotKept(t *testing.T) {
	voter, d := busy(t, disk.MaxRoom)
	lines := []api.Line{{ID: name(0, 1), Buyer: 1, Amount: 70}, {ID: name(1, 1), Buyer: 0, Amount: 28}}
	hears(t, voter, group, api.Msg{Kind: msg.Prepare, Cycle: 1, Lines: lines, Nets: []int64{42, -42, 0}})
	leader, on := fresh(t, group)
	does(t, leader, api.Msg{Kind: msg.Start})
	hears(t, leader, 0, api.Msg{Kind: msg.Offer, Cycle: 1, Lines: lines})
	hears(t, leader, 1, api.Msg{Kind: msg.Offer, Cycle: 1, Lines: lines})
	hears(t, leader, 2, of(msg.Offer, 1))
	for i, x := range []*node.Node{voter, leader} {
		was, records := text(x.State()), x.Records()
		for range 3 {
			s := x.State()
			scribble(reflect.ValueOf(&s).Elem())
			list, _ := x.Tick()
			packets := fmt.Sprint(list)
			scribble(reflect.ValueOf(list))
			if list, _ = x.Tick(); fmt.Sprint(list) != packets {
				t.Errorf("it sends %v, want %v", list, packets)
			}
			scribble(reflect.ValueOf(list))
			if text(x.State()) != was {
				t.Fatalf("it is %+v, want %s", x.State(), was)
			}
			x = opened(t, []*disk.Disk{d, on}[i], []int{0, group}[i]) // ahead of the first thing that is due
			if text(x.State()) != was || x.Records() != records {
				t.Fatalf("opened anew it is %+v, want %s", x.State(), was)
			}
		}
	}
}

// P2: what is handed in is neither changed nor kept.
func TestWhatIsHandedInIsNotKept(t *testing.T) {
	x, d := busy(t, disk.MaxRoom)
	leader, on := fresh(t, group)
	does(t, leader, api.Msg{Kind: msg.Start})
	lines := []api.Line{{ID: name(0, 1), Buyer: 1, Amount: 70}, {ID: name(1, 1), Buyer: 0, Amount: 28}, {}}[:2]
	nets := []int64{42, -42, 0, 9}[:3]
	pass := func(x *node.Node, d *disk.Disk, from int, m api.Msg) {
		t.Helper()
		m.Lines, m.Nets = slices.Clone(m.Lines), slices.Clone(m.Nets)
		p := next(x, from, m)
		handed := fmt.Sprint(p, m.Lines[:cap(m.Lines)], m.Nets[:cap(m.Nets)])
		is(t, "Receive", x.Receive(p), api.OK)
		if got := fmt.Sprint(p, m.Lines[:cap(m.Lines)], m.Nets[:cap(m.Nets)]); got != handed {
			t.Errorf("handed in %s, it is %s", handed, got)
		}
		was, records := text(x.State()), x.Records()
		scribble(reflect.ValueOf(m.Lines))
		scribble(reflect.ValueOf(m.Nets))
		if text(x.State()) != was {
			t.Errorf("it is %+v, want %s", x.State(), was)
		}
		if y := opened(t, d, p.To); text(y.State()) != was || y.Records() != records {
			t.Errorf("opened anew it is %+v, want %s", y.State(), was)
		}
	}
	pass(x, d, group, api.Msg{Kind: msg.Prepare, Cycle: 1, Lines: lines, Nets: nets})
	pass(x, d, 1, api.Msg{Kind: msg.Confirm, Lines: lines, Nets: nets})
	for from := range 2 {
		pass(leader, on, from, api.Msg{Kind: msg.Offer, Cycle: 1, Lines: lines, Nets: nets})
	}
	m := order(1, 9, 5)
	m.Lines, m.Nets = slices.Clone(lines), slices.Clone(nets)
	does(t, x, m)
	was := text(x.State())
	scribble(reflect.ValueOf(m.Lines))
	if text(x.State()) != was || text(opened(t, d, 0).State()) != was {
		t.Errorf("it is %+v, want %s", x.State(), was)
	}
}
