package group_test

import (
	"fmt"
	"math"
	"slices"
	"testing"

	"contra/api"
	"contra/chief"
	"contra/disk"
	"contra/group"
	"contra/item"
	"contra/msg"
	"contra/net"
	"contra/node"
	"contra/state"
	"contra/vote"
)

// far is how far amounts may be apart in most tests.
const far = 5

// wild are numbers inside and outside what is taken.
func wild() []int {
	return []int{math.MinInt, math.MinInt + 1, -2, -1, 0, 1, 2, 3, 4, 7, 8, 9, 10, 1 << 13, 1 << 22, 1<<22 + 1, 1<<30 + 1, math.MaxInt - 1, math.MaxInt}
}

// made is a group of so many entities, with much room.
func made(t *testing.T, n int) *group.Group {
	t.Helper()
	return roomy(t, n, disk.MaxRoom)
}

// roomy is a group of so many entities, with so much room each.
func roomy(t *testing.T, n, room int) *group.Group {
	t.Helper()
	g, e := group.New(n, far, room)
	if g == nil || e != api.OK {
		t.Fatalf("New: %v", e)
	}
	return g
}

// is holds an answer against the one that is wanted.
func is(t *testing.T, call string, e, want api.Errno) {
	t.Helper()
	if e != want {
		t.Errorf("%s: %v, want %v", call, e, want)
	}
}

// does has all that happen; it has to be taken.
func does(t *testing.T, g *group.Group, list ...group.Act) {
	t.Helper()
	for _, a := range list {
		if e := g.Do(a); e != api.OK {
			t.Fatalf("Do %+v: %v", a, e)
		}
	}
}

// calm has so many calm rounds go by; nothing may be refused.
func calm(t *testing.T, g *group.Group, rounds int) {
	t.Helper()
	if e := g.Calm(rounds); e != api.OK {
		t.Fatalf("Calm %d: %v", rounds, e)
	}
}

// at is an act at a node; of is one of a packet, or, at the node 0, of so many bytes; due has a crash of a node be due.
func at(kind, i int) group.Act { return group.Act{Kind: kind, Node: i} }

func of(kind, i int) group.Act { return group.Act{Kind: kind, I: i} }

func due(i, bytes int) group.Act { return group.Act{Kind: group.Fuse, Node: i, I: bytes} }

// says is a client that says something to a node.
func says(i int, m api.Msg) group.Act { return group.Act{Kind: group.Client, Node: i, Msg: m} }

// name is an item's name.
func name(seller, number int) api.ID { return api.ID{Seller: seller, Number: number} }

// sells and expects are what clients say of an item.
func sells(seller, number, buyer int, amount int64) group.Act {
	return says(seller, api.Msg{Kind: msg.Issue, ID: name(seller, number), Buyer: buyer, Amount: amount})
}

func expects(buyer, seller, number int, amount int64) group.Act {
	return says(buyer, api.Msg{Kind: msg.Order, ID: name(seller, number), Amount: amount})
}

// text is all that is seen of a group, for comparing.
func text(g *group.Group) string {
	var up []bool
	for i := range g.N() + 1 {
		up = append(up, g.Up(i))
	}
	return fmt.Sprintf("%d %d %v %+v", g.N(), g.Flights(), up, g.States())
}

// stays says that an act is refused so, and that nothing has changed.
func stays(t *testing.T, g *group.Group, a group.Act, want api.Errno) {
	t.Helper()
	was := text(g)
	is(t, fmt.Sprintf("Do %+v", a), g.Do(a), want)
	if got := text(g); got != was {
		t.Errorf("behind %+v it is %s, want %s", a, got, was)
	}
}

// stateOf is in which state a node has an item; 0, if it has none of that name.
func stateOf(g *group.Group, i int, id api.ID) int {
	x, _ := g.States()[i].Desk.Book.Get(id)
	return x.State
}

// hasIt says in which state two nodes have an item.
func hasIt(t *testing.T, g *group.Group, id api.ID, seller, buyer, wantSeller, wantBuyer int) {
	t.Helper()
	if a, b := stateOf(g, seller, id), stateOf(g, buyer, id); a != wantSeller || b != wantBuyer {
		t.Errorf("%v is %d at its seller, %d at its buyer; want %d, %d", id, a, b, wantSeller, wantBuyer)
	}
}

// heard is how many things a node has heard of another one.
func heard(g *group.Group, i, from int) int { return g.States()[i].Links.Peers[from].Heard }

// P22.1
func TestNew(t *testing.T) {
	for _, n := range wild() {
		for _, far := range []int64{math.MinInt64, -1, 0, 1, math.MaxInt64} {
			for _, room := range wild() {
				want := api.OK
				if n < 1 || n > api.MaxEntity || far < 0 {
					want = api.ErrRange
				} else {
					_, want = disk.New(room)
				}
				g, e := group.New(n, far, room)
				if e != want || (g == nil) != (want != api.OK) {
					t.Fatalf("New %d, %d, %d: %v, %v; want %v", n, far, room, g, e, want)
				}
				if g != nil {
					isNew(t, g, n, far)
				}
			}
		}
	}
}

// isNew says that a group is one to which nothing happened.
func isNew(t *testing.T, g *group.Group, n int, far int64) {
	t.Helper()
	if g.N() != n || g.Flights() != 0 || len(g.States()) != n+1 {
		t.Fatalf("%d entities, %d flights, %d states; want %d", g.N(), g.Flights(), len(g.States()), n)
	}
	for i, s := range g.States() {
		want, _ := state.New(i, n, far)
		if fmt.Sprintf("%+v", s) != fmt.Sprintf("%+v", want) {
			t.Errorf("%d is %+v, want %+v", i, s, want)
		}
	}
	for _, i := range wild() {
		if g.Up(i) != (i >= 0 && i <= n) {
			t.Errorf("Up %d of %d: %v", i, n, g.Up(i))
		}
	}
}

// P22.1: amounts are taken that are so far apart, and none that are farther, also once a node was started anew.
func TestHowFarApart(t *testing.T) {
	for _, far := range []int64{0, 1, 5} {
		g, e := group.New(2, far, disk.MaxRoom)
		is(t, "New", e, api.OK)
		does(t, g, expects(1, 0, 1, 70), expects(1, 0, 2, 70), sells(0, 1, 1, 70+far), sells(0, 2, 1, 71+far))
		does(t, g, at(group.Crash, 1), at(group.Restart, 1))
		calm(t, g, 2)
		hasIt(t, g, name(0, 1), 0, 1, item.Agreed, item.Agreed)
		hasIt(t, g, name(0, 2), 0, 1, item.Disputed, item.Disputed)
	}
}

// P22.1, P22.2: each disk has that room, and one of its own.
func TestRoom(t *testing.T) {
	record, _ := msg.Write(nil, sells(0, 1, 1, 70).Msg)
	for room := range 100 {
		d, _ := disk.New(room)
		x, _ := node.Open(d, 0, 2, far)
		want := x.Do(sells(0, 1, 1, 70).Msg)
		g := roomy(t, 2, room)
		is(t, "sells", g.Do(sells(0, 1, 1, 70)), want)
		is(t, "sells", g.Do(sells(1, 1, 0, 70)), want)
		if want != api.OK {
			is(t, "there is no room", want, api.ErrFull)
			isNew(t, g, 2, far)
		}
		if room < len(record) && want == api.OK {
			t.Errorf("room %d: %v", room, want)
		}
	}
}

// P22.1, P2: what is answered is memory of its own.
func TestStatesAreTheirOwn(t *testing.T) {
	g := busy(t)
	was := text(g)
	for range 2 {
		list := g.States()
		for i := range list {
			s := &list[i]
			for j := range s.Desk.Book.Items {
				s.Desk.Book.Items[j].Amount++
			}
			for j := range s.Desk.Book.Orders {
				s.Desk.Book.Orders[j].Amount++
			}
			for j := range s.Links.Peers {
				for k := range s.Links.Peers[j].Said {
					s.Links.Peers[j].Said[k].Kind++
				}
				_ = append(s.Links.Peers[j].Said[:0], api.Msg{}, api.Msg{}, api.Msg{})
				s.Links.Peers[j].Heard++
			}
			for j := range s.Parts.List {
				for k := range s.Parts.List[j].Lines {
					s.Parts.List[j].Lines[k].Amount++
				}
				s.Parts.List[j].State++
			}
			for j := range s.Chief.Runs {
				for k := range s.Chief.Runs[j].Nets {
					s.Chief.Runs[j].Nets[k]++
				}
				s.Chief.Runs[j].State++
			}
			_ = append(s.Desk.Book.Items, api.Item{})
		}
		_ = append(list[:1], list[0], list[0])
		if got := text(g); got != was {
			t.Fatalf("changed from outside: %s, want %s", got, was)
		}
	}
	calm(t, g, 20)
	if stateOf(g, 0, name(0, 1)) != item.Settled {
		t.Error("the item isn't settled")
	}
}

// busy is a group of two with items, a cycle to which both said yes, and packets on their way.
func busy(t *testing.T) *group.Group {
	t.Helper()
	g := made(t, 2)
	does(t, g, expects(1, 0, 1, 72), sells(0, 1, 1, 70), expects(0, 1, 1, 30), sells(1, 1, 0, 30), sells(0, 2, 1, 9))
	calm(t, g, 2)
	does(t, g, says(2, api.Msg{Kind: msg.Start}))
	calm(t, g, 3)
	does(t, g, at(group.Tick, 0), at(group.Tick, 1), at(group.Tick, 2))
	if p, _ := g.States()[0].Parts.Get(1); p.State != vote.Yes || len(p.Lines) != 2 {
		t.Fatalf("the cycle is %+v", p)
	}
	return g
}

// P22.2: which error comes first, of each kind, node and packet.
func TestErrors(t *testing.T) {
	kinds := append(wild(), group.Double, group.Tick, group.Fuse, group.Restart)
	for _, kind := range kinds {
		for _, i := range wild() {
			for _, p := range wild() {
				g := busy(t)
				does(t, g, at(group.Crash, 1))
				a := group.Act{Kind: kind, Node: i, I: p}
				want := api.OK
				switch {
				case kind == group.Deliver || kind == group.Lose || kind == group.Double:
					if p < 0 || p >= g.Flights() {
						want = api.ErrMissing
					}
				case i < 0 || i > 2:
					want = api.ErrRange
				case kind == group.Restart && i != 1:
					want = api.ErrState
				case kind != group.Restart && i == 1:
					want = api.ErrDown
				case kind < 0 || kind > group.Compact || kind == group.Client:
					want = api.ErrKind
				}
				if want != api.OK {
					stays(t, g, a, want)
				} else if kind != group.Deliver {
					is(t, fmt.Sprintf("Do %+v", a), g.Do(a), want)
				}
				if t.Failed() {
					t.FailNow()
				}
			}
		}
	}
}

// P22.2: what a client says is what the node answers.
func TestClient(t *testing.T) {
	g := made(t, 2)
	does(t, g, sells(0, 1, 1, 70), expects(1, 0, 1, 70), expects(1, 0, 1, 71), says(2, api.Msg{Kind: msg.Start, Currency: 7}))
	for _, x := range []struct {
		a    group.Act
		want api.Errno
	}{
		{says(0, api.Msg{}), api.ErrKind},
		{says(0, api.Msg{Kind: msg.Due, ID: name(0, 1)}), api.ErrKind},
		{says(0, api.Msg{Kind: msg.Propose, ID: name(0, 1)}), api.ErrKind},
		{says(0, api.Msg{Kind: msg.Prepare, Cycle: 1, Lines: make([]api.Line, 3), Nets: make([]int64, 9)}), api.ErrKind},
		{says(0, api.Msg{Kind: msg.Start}), api.ErrKind},
		{says(2, sells(0, 1, 1, 70).Msg), api.ErrKind},
		{sells(0, 1, 1, 70), api.ErrTwice},
		{sells(0, 2, 2, 70), api.ErrRange},
		{sells(0, 2, 0, 70), api.ErrRange},
		{sells(0, 2, 1, 0), api.ErrRange},
		{says(1, sells(0, 2, 1, 70).Msg), api.ErrOther},
		{says(0, api.Msg{Kind: msg.Withdraw, ID: name(0, 1)}), api.ErrState},
		{says(0, api.Msg{Kind: msg.Adjust, ID: name(0, 2), Amount: 5}), api.ErrMissing},
		{says(2, api.Msg{Kind: msg.Start, Currency: 7}), api.ErrState},
		{says(2, api.Msg{Kind: msg.Start, Currency: 8}), api.ErrRange},
	} {
		stays(t, g, x.a, x.want)
	}
	hasIt(t, g, name(0, 1), 0, 1, item.Proposed, 0)
	list := g.States()
	if most, there := list[1].Desk.Book.Expected(name(0, 1)); most != 71 || !there {
		t.Errorf("expected: %d, %v", most, there)
	}
	if x := list[2].Chief.Runs; len(x) != 1 || x[0].State != chief.Asking || x[0].Currency != 7 {
		t.Errorf("the cycles are %+v", x)
	}
}

// P22.2: what a node's tick sends is on its way, behind what is there, and comes as it was said.
func TestTickAndDeliver(t *testing.T) {
	g := made(t, 3)
	does(t, g, sells(0, 1, 1, 70), sells(0, 2, 2, 80), sells(0, 3, 1, 90))
	does(t, g, at(group.Tick, 3)) // nothing is said: a packet to each of three
	if g.Flights() != 3 {
		t.Fatalf("%d flights", g.Flights())
	}
	does(t, g, at(group.Tick, 0)) // two things to 1, one to 2, nothing to 3
	if g.Flights() != 7 {
		t.Fatalf("%d flights", g.Flights())
	}
	is(t, "the second one to 1 is too early", g.Do(of(group.Deliver, 4)), api.ErrState)
	if g.Flights() != 6 || heard(g, 1, 0) != 0 {
		t.Errorf("%d flights, %d heard", g.Flights(), heard(g, 1, 0))
	}
	does(t, g, of(group.Deliver, 4)) // the one to 2
	hasIt(t, g, name(0, 2), 0, 2, item.Proposed, item.Disputed)
	does(t, g, of(group.Deliver, 3)) // the first one to 1
	hasIt(t, g, name(0, 1), 0, 1, item.Proposed, item.Disputed)
	hasIt(t, g, name(0, 3), 0, 1, item.Proposed, 0)
	does(t, g, of(group.Deliver, 3), of(group.Deliver, 0), of(group.Deliver, 0), of(group.Deliver, 0))
	if g.Flights() != 0 {
		t.Errorf("%d flights", g.Flights())
	}
	stays(t, g, of(group.Deliver, 0), api.ErrMissing)
	does(t, g, at(group.Tick, 1), of(group.Deliver, 0)) // 0 hears that it is disputed, and that 1 has heard one thing
	hasIt(t, g, name(0, 1), 0, 1, item.Disputed, item.Disputed)
	flights := g.Flights()
	does(t, g, at(group.Tick, 0)) // one thing to 1, one to 2, nothing to 3
	if g.Flights() != flights+3 {
		t.Errorf("%d flights more", g.Flights()-flights)
	}
}

// P22.2
func TestLoseAndDouble(t *testing.T) {
	g := made(t, 2)
	does(t, g, sells(0, 1, 1, 70), sells(0, 2, 1, 80), at(group.Tick, 0)) // two to 1, one to the coordinator
	does(t, g, of(group.Double, 0))
	if g.Flights() != 4 {
		t.Fatalf("%d flights", g.Flights())
	}
	does(t, g, of(group.Lose, 0))
	if g.Flights() != 3 || heard(g, 1, 0) != 0 {
		t.Fatalf("%d flights, %d heard", g.Flights(), heard(g, 1, 0))
	}
	is(t, "the first one is lost", g.Do(of(group.Deliver, 0)), api.ErrState)
	does(t, g, of(group.Deliver, 1)) // it is there once more, behind all others
	if heard(g, 1, 0) != 1 || g.Flights() != 1 {
		t.Errorf("%d heard, %d flights", heard(g, 1, 0), g.Flights())
	}
	does(t, g, of(group.Double, 0), of(group.Lose, 1), of(group.Lose, 0))
	for _, kind := range []int{group.Deliver, group.Lose, group.Double} {
		stays(t, g, of(kind, 0), api.ErrMissing)
	}
}

// P22.2: once so many are on their way none is doubled, and what is sent is lost.
func TestTheNetIsFull(t *testing.T) {
	g := made(t, 1)
	does(t, g, at(group.Tick, 0))
	for range net.MaxFlights - 2 {
		does(t, g, of(group.Double, 0))
	}
	does(t, g, at(group.Tick, 1))
	if g.Flights() != net.MaxFlights {
		t.Fatalf("%d flights", g.Flights())
	}
	stays(t, g, of(group.Double, net.MaxFlights), api.ErrMissing)
	stays(t, g, of(group.Double, 0), api.ErrFull)
	does(t, g, says(1, api.Msg{Kind: msg.Start}), at(group.Tick, 1), at(group.Tick, 1))
	if g.Flights() != net.MaxFlights {
		t.Fatalf("%d flights", g.Flights())
	}
	does(t, g, of(group.Lose, 0), of(group.Lose, 0), at(group.Tick, 1))
	if g.Flights() != net.MaxFlights-1 {
		t.Fatalf("%d flights", g.Flights())
	}
	does(t, g, of(group.Deliver, net.MaxFlights-2)) // what was sent last
	if heard(g, 0, 1) != 1 {
		t.Errorf("%d heard", heard(g, 0, 1))
	}
	calm(t, g, 1)
	if g.Flights() != 0 {
		t.Errorf("%d flights", g.Flights())
	}
}

// P22.2: a packet to one that is down is lost.
func TestDeliverToOneThatIsDown(t *testing.T) {
	g := made(t, 2)
	does(t, g, sells(0, 1, 1, 70), at(group.Tick, 0), at(group.Crash, 1))
	states := fmt.Sprint(g.States())
	is(t, "1 is down", g.Do(of(group.Deliver, 0)), api.ErrDown)
	if g.Flights() != 1 || fmt.Sprint(g.States()) != states {
		t.Errorf("%d flights, %v; want %s", g.Flights(), g.States(), states)
	}
	does(t, g, at(group.Restart, 1), of(group.Deliver, 0)) // the one to the coordinator
	if g.Flights() != 0 || heard(g, 1, 0) != 0 {
		t.Errorf("%d flights, %d heard", g.Flights(), heard(g, 1, 0))
	}
}

// P22.2, P22.4: one that has crashed does nothing, is what it was at last, and is that again once it is started.
func TestCrashAndRestart(t *testing.T) {
	for i := range 3 {
		g := busy(t)
		states, flights := fmt.Sprint(g.States()), g.Flights()
		does(t, g, group.Act{Kind: group.Crash, Node: i, I: 5, Turn: 255})
		for j := range 3 {
			if g.Up(j) != (j != i) {
				t.Errorf("Up %d, as %d is down: %v", j, i, g.Up(j))
			}
		}
		for kind := group.Client; kind <= group.Compact+1; kind++ {
			if kind != group.Restart && (kind < group.Deliver || kind > group.Double) {
				stays(t, g, group.Act{Kind: kind, Node: i, I: 3, Msg: sells(i, 9, 1-i%2, 5).Msg}, api.ErrDown)
			}
		}
		if got := fmt.Sprint(g.States()); got != states || g.Flights() != flights {
			t.Errorf("as it is down: %s, %d; want %s, %d", got, g.Flights(), states, flights)
		}
		does(t, g, at(group.Restart, i))
		if got := fmt.Sprint(g.States()); got != states || g.Flights() != flights || !g.Up(i) {
			t.Errorf("started anew: %s, %d; want %s, %d", got, g.Flights(), states, flights)
		}
		stays(t, g, at(group.Restart, i), api.ErrState)
	}
}

// P22.2: one that is started anew waits from then on, and knows of no other what it has heard.
func TestRestartIsOpen(t *testing.T) {
	g := made(t, 2)
	does(t, g, sells(0, 1, 1, 70))
	calm(t, g, node.Patience)
	hasIt(t, g, name(0, 1), 0, 1, item.Disputed, item.Disputed)
	does(t, g, at(group.Crash, 0), at(group.Restart, 0), at(group.Tick, 0))
	is(t, "a thing that is said once more", g.Do(of(group.Deliver, 0)), api.OK)
	if heard(g, 1, 0) != 1 || g.Flights() != 1 {
		t.Errorf("%d heard, %d flights", heard(g, 1, 0), g.Flights())
	}
	calm(t, g, node.Patience-2)
	hasIt(t, g, name(0, 1), 0, 1, item.Disputed, item.Disputed)
	calm(t, g, 1)
	hasIt(t, g, name(0, 1), 0, 1, item.Cancelled, item.Cancelled)
}

// size is how many bytes a record of that has on a node's disk.
func size(t *testing.T, a group.Act, n int) int {
	t.Helper()
	d, _ := disk.New(disk.MaxRoom)
	x, _ := node.Open(d, a.Node, n, far)
	is(t, "Do", x.Do(a.Msg), api.OK)
	return d.Sure()
}

// P22.2: a crash that is due comes with the first byte too many, of what a client says.
func TestFuse(t *testing.T) {
	sold := sells(0, 1, 1, 70)
	whole := size(t, sold, 2)
	for fuse := -2; fuse < whole+3; fuse++ {
		g := made(t, 2)
		does(t, g, group.Act{Kind: group.Fuse, Node: 0, I: fuse, Turn: 9})
		does(t, g, expects(1, 0, 1, 70)) // it is 0's crash
		if fuse >= 0 && fuse < whole {
			was := fmt.Sprint(g.States())
			is(t, "it crashes", g.Do(sold), api.ErrDown)
			if g.Up(0) || !g.Up(1) || fmt.Sprint(g.States()) != was {
				t.Errorf("fuse %d: Up %v, %v, %v", fuse, g.Up(0), g.Up(1), g.States())
			}
			stays(t, g, sold, api.ErrDown)
			does(t, g, at(group.Restart, 0))
			if fmt.Sprint(g.States()) != was {
				t.Errorf("fuse %d: %v, want %s", fuse, g.States(), was)
			}
		}
		does(t, g, sold)
		hasIt(t, g, name(0, 1), 0, 1, item.Proposed, 0)
		e := g.Do(sells(0, 2, 1, 70))
		if crashes := fuse >= whole; crashes != (e == api.ErrDown) || g.Up(0) == crashes {
			t.Errorf("fuse %d: %v, Up %v", fuse, e, g.Up(0))
		}
	}
}

// P22.2: so it comes with a packet, a tick, and as the log is renewed; and it is due no more behind a crash, or if Fuse says so.
func TestFuseOfOthers(t *testing.T) {
	ready := func() *group.Group {
		g := made(t, 2)
		does(t, g, sells(0, 1, 1, 70))
		calm(t, g, 2+node.Patience-1) // 0 gives it up with its next tick
		does(t, g, sells(1, 1, 0, 70), at(group.Tick, 1))
		return g
	}
	for _, a := range []group.Act{of(group.Deliver, 0), at(group.Tick, 0), at(group.Compact, 0)} {
		g := ready()
		does(t, g, due(0, 3))
		was, flights := fmt.Sprint(g.States()), g.Flights()
		if a.Kind == group.Deliver {
			flights--
		}
		is(t, fmt.Sprintf("Do %+v", a), g.Do(a), api.ErrDown)
		if g.Up(0) || fmt.Sprint(g.States()) != was || g.Flights() != flights {
			t.Errorf("behind %+v: Up %v, %d flights, %v; want %d, %s", a, g.Up(0), g.Flights(), g.States(), flights, was)
		}
		does(t, g, at(group.Restart, 0))
		if fmt.Sprint(g.States()) != was {
			t.Errorf("behind %+v: %v, want %s", a, g.States(), was)
		}
		for _, ends := range [][]group.Act{{due(0, -1)}, {of(group.Crash, 0), of(group.Restart, 0)}} {
			g = ready()
			does(t, g, due(0, 3))
			does(t, g, ends...)
			does(t, g, a)
		}
	}
}

// P22.2, P22.4: a log that is renewed tells the same.
func TestCompact(t *testing.T) {
	for i := range 3 {
		g := busy(t)
		was := text(g)
		does(t, g, at(group.Compact, i), at(group.Compact, i))
		if got := text(g); got != was {
			t.Errorf("it is %s, want %s", got, was)
		}
		does(t, g, at(group.Crash, i), at(group.Restart, i))
		if got := text(g); got != was {
			t.Errorf("started anew it is %s, want %s", got, was)
		}
	}
	g := roomy(t, 2, 3000)
	sold := 0
	for sold < 1000 && g.Do(sells(0, 1+sold, 1, 70)) == api.OK {
		sold++
	}
	stays(t, g, sells(0, 1+sold, 1, 70), api.ErrFull)
	does(t, g, at(group.Compact, 0), sells(0, 1+sold, 1, 70)) // there is room again
	if len(g.States()[0].Desk.Book.Items) != sold+1 {
		t.Errorf("%d items", len(g.States()[0].Desk.Book.Items))
	}
}

// P22.2: a log whose node doesn't fit into one record stays as it is.
func TestCompactOfTooMuch(t *testing.T) {
	g := made(t, 2)
	for i := range 1000 {
		does(t, g, sells(0, 1+i, 1, 1<<49))
	}
	stays(t, g, at(group.Compact, 0), api.ErrLong)
	was := text(g)
	does(t, g, at(group.Crash, 0), at(group.Restart, 0))
	if text(g) != was {
		t.Error("it isn't what it was")
	}
}

// The example of the chapter.
func TestExample(t *testing.T) {
	g := made(t, 2)
	does(t, g, sells(0, 1, 1, 70), expects(1, 0, 1, 72))
	calm(t, g, 4)
	hasIt(t, g, name(0, 1), 0, 1, item.Agreed, item.Agreed)
}

// P22.2: in a round all tick first, then all that is on its way comes.
func TestCalmRounds(t *testing.T) {
	g := made(t, 2)
	does(t, g, sells(0, 1, 1, 70), sells(0, 2, 1, 80), sells(1, 1, 0, 90))
	for _, rounds := range []int{0, -1, math.MinInt} {
		calm(t, g, rounds)
		if g.Flights() != 0 || heard(g, 1, 0) != 0 {
			t.Errorf("%d rounds: %d flights, %d heard", rounds, g.Flights(), heard(g, 1, 0))
		}
	}
	for i := range 3 {
		hasIt(t, g, name(0, 1), 0, 1, []int{item.Proposed, item.Proposed, item.Disputed}[i], []int{0, item.Disputed, item.Disputed}[i])
		hasIt(t, g, name(0, 2), 0, 1, []int{item.Proposed, item.Proposed, item.Disputed}[i], []int{0, item.Disputed, item.Disputed}[i])
		hasIt(t, g, name(1, 1), 1, 0, []int{item.Proposed, item.Proposed, item.Disputed}[i], []int{0, item.Disputed, item.Disputed}[i])
		calm(t, g, 1)
		if g.Flights() != 0 {
			t.Errorf("%d flights", g.Flights())
		}
	}
	// They are disputed since the second round.
	calm(t, g, node.Patience-2)
	hasIt(t, g, name(0, 1), 0, 1, item.Disputed, item.Disputed)
	calm(t, g, 1)
	hasIt(t, g, name(0, 1), 0, 1, item.Cancelled, item.Cancelled) // one with each tick
	hasIt(t, g, name(0, 2), 0, 1, item.Disputed, item.Disputed)
	hasIt(t, g, name(1, 1), 1, 0, item.Cancelled, item.Cancelled)
	calm(t, g, 1)
	hasIt(t, g, name(0, 2), 0, 1, item.Cancelled, item.Cancelled)
}

// P22.2: what was on its way comes ahead of what is sent, and once each.
func TestCalmOfWhatIsOnItsWay(t *testing.T) {
	g := made(t, 2)
	does(t, g, sells(0, 1, 1, 70), at(group.Tick, 0), of(group.Double, 0), of(group.Double, 0))
	calm(t, g, 0)
	if g.Flights() != 4 {
		t.Errorf("%d flights", g.Flights())
	}
	does(t, g, sells(0, 2, 1, 80))
	calm(t, g, 1)
	if g.Flights() != 0 || heard(g, 1, 0) != 2 {
		t.Errorf("%d flights, %d heard", g.Flights(), heard(g, 1, 0))
	}
	// What is too early is refused, and comes with the next round: that is no error.
	does(t, g, sells(0, 3, 1, 70), sells(0, 4, 1, 70), at(group.Tick, 0), of(group.Lose, 0))
	calm(t, g, 1)
	if heard(g, 1, 0) != 4 {
		t.Errorf("%d heard", heard(g, 1, 0))
	}
}

// P22.2: the first one comes first, so that none is too early.
func TestCalmInOrder(t *testing.T) {
	g := made(t, 3)
	for i := range 30 {
		does(t, g, sells(i%3, 1+i, (i+1)%3, 70), sells(i%3, 101+i, (i+2)%3, 70))
	}
	calm(t, g, 1)
	for i := range 3 {
		for from := range 3 {
			if from != i && heard(g, i, from) != 10 {
				t.Errorf("%d has heard %d things of %d", i, heard(g, i, from), from)
			}
		}
	}
}

// P22.2: no crash is due any more, and all are up.
func TestCalmStartsAll(t *testing.T) {
	for _, rounds := range []int{-1, 0, 9} {
		g := made(t, 2)
		does(t, g, sells(0, 1, 1, 70), expects(1, 0, 1, 70))
		does(t, g, at(group.Crash, 0), at(group.Crash, 2), due(1, 0))
		was := fmt.Sprint(g.States())
		calm(t, g, rounds)
		for i := range 3 {
			if !g.Up(i) {
				t.Errorf("%d isn't up", i)
			}
		}
		if rounds <= 0 && (fmt.Sprint(g.States()) != was || g.Flights() != 0) {
			t.Errorf("it is %v, %d flights", g.States(), g.Flights())
		}
		does(t, g, expects(1, 0, 2, 70))
		calm(t, g, 2)
		hasIt(t, g, name(0, 1), 0, 1, item.Agreed, item.Agreed)
	}
	g := made(t, 3)
	for i := range 4 {
		does(t, g, due(i, 2))
	}
	does(t, g, at(group.Crash, 3))
	calm(t, g, 0)
	does(t, g, sells(0, 1, 1, 1), sells(1, 1, 2, 1), sells(2, 1, 0, 1), says(3, api.Msg{Kind: msg.Start}))
}

// P22.2: what is refused for want of room is no error of the rounds.
func TestCalmWithoutRoom(t *testing.T) {
	sold := sells(0, 1, 1, 70)
	g := roomy(t, 2, size(t, sold, 2))
	does(t, g, sold)
	calm(t, g, 3)
	hasIt(t, g, name(0, 1), 0, 1, item.Proposed, item.Disputed) // 1 has said so, and 0 can't be told
	calm(t, g, 30)
	hasIt(t, g, name(0, 1), 0, 1, item.Proposed, item.Disputed)
}

// P22.4: what a disk, or the net, does changes no node; what happens to one node changes no other.
func TestWhatChangesANode(t *testing.T) {
	changes := 0
	for i := range 3 {
		for kind := -1; kind <= group.Compact+1; kind++ {
			for _, fuse := range []int{-1, 0, 7} {
				g := busy(t)
				was := g.States()
				does(t, g, due(i, fuse))
				a := group.Act{Kind: kind, Node: i, I: 1, Msg: sells(i, 9, 1-i%2, 5).Msg}
				g.Do(a)
				to := -1
				switch kind {
				case group.Client, group.Tick:
					to = i
				case group.Deliver:
					to = 2 // a vote
				}
				for j, s := range g.States() {
					if fmt.Sprint(s) == fmt.Sprint(was[j]) {
						continue
					}
					changes++
					if j != to {
						t.Errorf("%+v changed %d: %+v, was %+v", a, j, s, was[j])
					}
				}
			}
		}
	}
	if changes != 2+1+7 { // by clients of 0 and 1, by 0's clock, with no crash; by the vote, but where 2 crashes by it
		t.Errorf("%d changes", changes)
	}
}

// P1: all calls end, whatever they are given.
func TestAllCallsEnd(t *testing.T) {
	for _, n := range []int{1, 2, 8} {
		g := made(t, n)
		for _, kind := range wild() {
			for _, i := range wild() {
				for _, x := range wild() {
					m := api.Msg{Kind: x, ID: name(i, x), Buyer: x, Currency: i, Round: x, Cycle: i, Amount: int64(x), Yes: true, Lines: make([]api.Line, 3), Nets: make([]int64, 9)}
					g.Do(group.Act{Kind: kind, Node: i, I: x, Turn: 3, Msg: m})
					g.Do(group.Act{Kind: group.Client, Node: i & 7, Msg: m})
				}
			}
			for kind := range group.Compact + 1 {
				g.Do(group.Act{Kind: kind, Node: kind % (n + 1), I: kind})
			}
		}
		calm(t, g, 3)
		for _, i := range wild() {
			g.Up(i)
		}
		if len(g.States()) != n+1 || g.N() != n || g.Flights() != 0 {
			t.Errorf("%d states, %d entities, %d flights", len(g.States()), g.N(), g.Flights())
		}
	}
}

// P2: what is handed in is neither changed nor kept.
func TestWhatIsHandedIn(t *testing.T) {
	g := made(t, 2)
	lines, nets := make([]api.Line, 2, 5), make([]int64, 2, 5)
	m := sells(0, 1, 1, 70).Msg
	m.Lines, m.Nets = lines, nets
	does(t, g, says(0, m))
	was := text(g)
	for i := range 5 {
		lines[:5][i].Amount, nets[:5][i] = 7, 7
	}
	if got := text(g); got != was {
		t.Errorf("it is %s, want %s", got, was)
	}
	does(t, g, at(group.Crash, 0), at(group.Restart, 0))
	if got := text(g); got != was {
		t.Errorf("started anew it is %s, want %s", got, was)
	}
	if !slices.Equal(lines[:5], []api.Line{{Amount: 7}, {Amount: 7}, {Amount: 7}, {Amount: 7}, {Amount: 7}}) || !slices.Equal(nets[:5], []int64{7, 7, 7, 7, 7}) {
		t.Errorf("changed: %v, %v", lines[:5], nets[:5])
	}
}

// P2: groups share nothing.
func TestGroupsShareNothing(t *testing.T) {
	one, two := made(t, 2), made(t, 2)
	was := text(two)
	does(t, one, sells(0, 1, 1, 70), at(group.Tick, 0), at(group.Crash, 1), due(0, 0))
	if got := text(two); got != was {
		t.Errorf("it is %s, want %s", got, was)
	}
	does(t, two, sells(0, 1, 1, 70))
}
