package calm_test

import (
	"fmt"
	"math"
	"slices"
	"testing"

	"contra/abstract"
	"contra/api"
	"contra/calm"
	"contra/chief"
	"contra/disk"
	"contra/group"
	"contra/item"
	"contra/link"
	"contra/msg"
	"contra/state"
	"contra/vote"
)

// made is a group of so many entities, that take amounts five apart, with much room.
func made(t *testing.T, n int) *group.Group {
	t.Helper()
	g, e := group.New(n, 5, disk.MaxRoom)
	if e != api.OK {
		t.Fatalf("New: %v", e)
	}
	return g
}

// does has all that happen; it has to be taken.
func does(t *testing.T, g *group.Group, list ...group.Act) {
	t.Helper()
	for _, a := range list {
		if e := g.Do(a); e != api.OK {
			t.Fatalf("Do %+v: %v", a, e)
		}
	}
}

// rounds has so many calm rounds go by; nothing may be refused.
func rounds(t *testing.T, g *group.Group, many int) {
	t.Helper()
	if e := g.Calm(many); e != api.OK {
		t.Fatalf("Calm %d: %v", many, e)
	}
}

// speaks has nodes say what they have to say, one after the other; all that are up hear it at once.
func speaks(t *testing.T, g *group.Group, list ...int) {
	t.Helper()
	for _, i := range list {
		does(t, g, at(group.Tick, i))
		for g.Flights() > 0 {
			if e := g.Do(group.Act{Kind: group.Deliver}); e != api.OK && e != api.ErrDown {
				t.Fatalf("Deliver: %v", e)
			}
		}
	}
}

// says is a client that says something to a node; at is something else that happens to it.
func says(i int, m api.Msg) group.Act { return group.Act{Kind: group.Client, Node: i, Msg: m} }

func at(kind, i int) group.Act { return group.Act{Kind: kind, Node: i} }

// name is an item's name.
func name(seller, number int) api.ID { return api.ID{Seller: seller, Number: number} }

// sells, expects, adjusts and starts are what clients say.
func sells(seller, number, buyer, currency int) group.Act {
	return says(seller, api.Msg{Kind: msg.Issue, ID: name(seller, number), Buyer: buyer, Currency: currency, Amount: 70})
}

func expects(buyer, seller, number int) group.Act {
	return says(buyer, api.Msg{Kind: msg.Order, ID: name(seller, number), Amount: 72})
}

func adjusts(seller, number int, amount int64) group.Act {
	return says(seller, api.Msg{Kind: msg.Adjust, ID: name(seller, number), Amount: amount})
}

func starts(n, currency int) group.Act { return says(n, api.Msg{Kind: msg.Start, Currency: currency}) }

// rests holds what Rest tells of a group's states against what is wanted, and against the words.
func rests(t *testing.T, what string, list []state.State, want bool) {
	t.Helper()
	if got := calm.Rest(list); got != want {
		t.Errorf("%s: %v, want %v", what, got, want)
	}
	if atRest(list) != want {
		t.Errorf("%s: by the words it isn't %v", what, want)
	}
}

// bound holds what Bound tells of a group: the words' 39, and two for each of so many things.
func bound(t *testing.T, what string, list []state.State, things int) {
	t.Helper()
	if got := calm.Bound(list); got != 39+2*things {
		t.Errorf("%s: %d, want %d", what, got, 39+2*things)
	}
}

// P24.1, P24.2: of no states it is true, and of a new group.
func TestNothing(t *testing.T) {
	rests(t, "no states", nil, true)
	rests(t, "no states", []state.State{}, true)
	bound(t, "no states", nil, 0)
	if !calm.Room(nil) {
		t.Error("no states have no room")
	}
	for n := 1; n <= api.MaxEntity; n++ {
		list := made(t, n).States()
		rests(t, "new", list, true)
		bound(t, "new", list, 0)
		if !calm.Room(list) {
			t.Error("new ones have no room")
		}
	}
}

// P24.1, P24.2: what is taken rests once both know it.
func TestAgreed(t *testing.T) {
	g := made(t, 3)
	does(t, g, expects(1, 0, 1))
	rests(t, "expected", g.States(), true)
	bound(t, "expected", g.States(), 0)
	does(t, g, sells(0, 1, 1, 2))
	rests(t, "sold", g.States(), false)
	bound(t, "sold", g.States(), 1)
	speaks(t, g, 0)
	rests(t, "its buyer has taken it", g.States(), false)
	bound(t, "its buyer has taken it", g.States(), 1)
	speaks(t, g, 1)
	rests(t, "its seller knows", g.States(), true)
	bound(t, "its seller knows", g.States(), 0)
	does(t, g, sells(0, 2, 1, 2), sells(1, 1, 2, 2))
	rests(t, "two more are sold", g.States(), false)
	bound(t, "two more are sold", g.States(), 2)
}

// P24.1, P24.2: what isn't taken rests once it is given up, and both know it.
func TestDisputed(t *testing.T) {
	g := made(t, 2)
	does(t, g, sells(0, 1, 1, 2))
	for round := range item.MaxRound {
		rests(t, "proposed", g.States(), false)
		bound(t, "proposed", g.States(), 1)
		speaks(t, g, 0)
		rests(t, "its buyer doesn't take it", g.States(), false)
		bound(t, "its buyer doesn't take it", g.States(), 1)
		speaks(t, g, 1)
		rests(t, "disputed", g.States(), false)
		bound(t, "disputed", g.States(), 1)
		does(t, g, adjusts(0, 1, int64(60-round)))
	}
	speaks(t, g, 0, 1)
	rests(t, "its seller gives it up", g.States(), false)
	bound(t, "its seller gives it up", g.States(), 0)
	speaks(t, g, 0)
	rests(t, "both have given it up", g.States(), true)
}

// P24.1: what a buyer doesn't expect is given up, when it is calm, and rests as Cancelled at both.
func TestGivenUp(t *testing.T) {
	g := made(t, 2)
	does(t, g, sells(0, 1, 1, 2))
	rounds(t, g, calm.Bound(g.States()))
	rests(t, "calm", g.States(), true)
	for i := range 2 {
		if x, _ := g.States()[i].Desk.Book.Get(name(0, 1)); x.State != item.Cancelled {
			t.Errorf("%d has %+v", i, x)
		}
	}
}

// asked is a group of two with an item, and the cycle 1 that begins with it.
func asked(t *testing.T) *group.Group {
	t.Helper()
	g := made(t, 2)
	does(t, g, expects(1, 0, 1), sells(0, 1, 1, 2))
	speaks(t, g, 0, 1)
	does(t, g, starts(2, 2))
	return g
}

// P24.1, P24.2: a cycle that is committed rests once all know it.
func TestCommitted(t *testing.T) {
	g := asked(t)
	bound(t, "it begins", g.States(), 1)
	rests(t, "it begins", g.States(), false)
	speaks(t, g, 2)
	bound(t, "all are asked", g.States(), 3)
	for _, i := range []int{0, 1, 2, 0} {
		rests(t, "it goes on", g.States(), false)
		speaks(t, g, i)
	}
	rests(t, "one has said yes", g.States(), false)
	bound(t, "one has said yes", g.States(), 3)
	speaks(t, g, 1)
	rests(t, "it is committed", g.States(), false)
	bound(t, "it is committed", g.States(), 2)
	does(t, g, at(group.Crash, 1))
	speaks(t, g, 2)
	rests(t, "one knows it", g.States(), false)
	bound(t, "one knows it", g.States(), 1)
	does(t, g, at(group.Restart, 1))
	speaks(t, g, 2)
	rests(t, "all know it", g.States(), true)
	bound(t, "all know it", g.States(), 0)
	if x, _ := g.States()[0].Desk.Book.Get(name(0, 1)); x.State != item.Settled || x.Cycle != 1 {
		t.Errorf("it is %+v", x)
	}
}

// P24.1: a cycle that is aborted rests once all that know of it know that; who never heard of it needn't.
func TestAborted(t *testing.T) {
	g := asked(t)
	speaks(t, g, 2, 0)
	does(t, g, at(group.Crash, 0))
	for range 8 {
		rests(t, "it isn't decided", g.States(), false)
		speaks(t, g, 2)
	}
	if run, _ := g.States()[2].Chief.Get(1); run.State != chief.Aborted {
		t.Fatalf("it is %+v", run)
	}
	rests(t, "one doesn't know it", g.States(), false)
	does(t, g, at(group.Restart, 0))
	speaks(t, g, 2)
	rests(t, "all know it", g.States(), true)

	g = asked(t)
	does(t, g, at(group.Crash, 0), at(group.Crash, 1))
	for range 8 {
		speaks(t, g, 2)
	}
	rests(t, "nobody has heard of it", g.States(), true)
	bound(t, "nobody has heard of it", g.States(), 0)
}

// rested is a group of three at rest, with items of all kinds, a cycle that is committed and one that is aborted.
func rested(t *testing.T) []state.State {
	t.Helper()
	g := made(t, 3)
	does(t, g, expects(1, 0, 1), sells(0, 1, 1, 1), expects(2, 1, 1), sells(1, 1, 2, 1)) // settled
	rounds(t, g, 3)
	does(t, g, starts(3, 1))
	rounds(t, g, 9)
	does(t, g, starts(3, 1), at(group.Crash, 0))
	for range 8 {
		speaks(t, g, 3)
	}
	does(t, g, at(group.Restart, 0))
	does(t, g, expects(1, 0, 2), sells(0, 2, 1, 1), expects(2, 0, 3), sells(0, 3, 2, 1), expects(1, 0, 4), sells(0, 4, 1, 1)) // agreed
	does(t, g, sells(2, 1, 0, 1))                                                                                             // given up
	rounds(t, g, 20)
	list := g.States()
	rests(t, "all is at rest", list, true)
	var states []int
	for _, id := range []api.ID{name(0, 1), name(1, 1), name(0, 2), name(0, 3), name(0, 4), name(2, 1)} {
		x, _ := abstract.Of(list).Get(id)
		states = append(states, x.State)
	}
	runs := list[3].Chief.Runs
	if fmt.Sprint(states) != "[5 5 3 3 3 4]" || len(runs) != 2 || runs[0].State != chief.Committed || runs[1].State != chief.Aborted {
		t.Fatalf("the items are %v, the cycles %+v", states, runs)
	}
	return list
}

// amounts has an item be of other amounts, by hand, at a node.
func amounts(list []state.State, i int, id api.ID, amount int64) {
	for j, x := range list[i].Desk.Book.Items {
		if x.ID == id {
			list[i].Desk.Book.Items[j].Amount = amount
		}
	}
}

// P24.1: an amount that was changed by hand at one of both isn't the same; at both it is one as good as another.
func TestRestOfAmounts(t *testing.T) {
	for _, id := range []api.ID{name(0, 1), name(1, 1), name(0, 2), name(0, 3), name(2, 1)} {
		x, _ := abstract.Of(rested(t)).Get(id)
		for _, amount := range []int64{69, 71, 0, -1, -70, 1 << 61} {
			list := rested(t)
			amounts(list, id.Seller, id, amount)
			rests(t, fmt.Sprintf("%v is of %d at its seller", id, amount), list, false)
			amounts(list, x.Buyer, id, amount)
			rests(t, fmt.Sprintf("%v is of %d at both", id, amount), list, true)
			amounts(list, id.Seller, id, 70)
			rests(t, fmt.Sprintf("%v is of %d at its buyer", id, amount), list, false)
		}
	}
}

// circle is a group of three at rest, in which 0 has two items sold to 1, 1 one to 2, and 2 one to 0, of amounts that were changed by hand.
func circle(t *testing.T, currency int, first, second, third, fourth int64) []state.State {
	t.Helper()
	g := made(t, 3)
	does(t, g, expects(1, 0, 1), expects(1, 0, 2), expects(2, 1, 1), expects(0, 2, 1))
	does(t, g, sells(0, 1, 1, currency), sells(0, 2, 1, currency), sells(1, 1, 2, currency), sells(2, 1, 0, currency))
	rounds(t, g, 3)
	list := g.States()
	rests(t, "as it was", list, true)
	for i := range 3 {
		amounts(list, i, name(0, 1), first)
		amounts(list, i, name(0, 2), second)
		amounts(list, i, name(1, 1), third)
		amounts(list, i, name(2, 1), fourth)
	}
	return list
}

// P24.1: what doesn't sum to what fits isn't even, in any currency: between two, or in all that one has.
func TestRestOfSums(t *testing.T) {
	const most = math.MaxInt64
	for currency := range api.MaxCurrency {
		rests(t, "all fits", circle(t, currency, most-5, 5, most, most), true)
		rests(t, "two of one are too much", circle(t, currency, most-5, 6, 70, 70), false)
		rests(t, "they are, though it makes up for them elsewhere", circle(t, currency, most, most, most, most), false)
		rests(t, "one isn't too much", circle(t, currency, 1, 1, most, 1), true)
		rests(t, "what one has to pay is", circle(t, currency, most-5, 1, -10, 70), false)
	}
}

// P24.1: what the coordinator has, changed by hand, has to be what all know.
func TestRestOfCycles(t *testing.T) {
	agreed := api.Line{ID: name(0, 2), Buyer: 1, Amount: 70}
	run := func(itsState int) chief.Run { return chief.Run{State: itsState, From: make([]chief.Heard, 3)} }
	for _, x := range []struct {
		what   string
		change func(c *chief.Chief)
		want   bool
	}{
		{"nothing", func(c *chief.Chief) {}, true},
		{"the first one begins", func(c *chief.Chief) { c.Runs[0].State = chief.Asking }, false},
		{"the first one is prepared", func(c *chief.Chief) { c.Runs[0].State = chief.Preparing }, false},
		{"the first one is aborted", func(c *chief.Chief) { c.Runs[0].State = chief.Aborted }, false},
		{"the second one begins", func(c *chief.Chief) { c.Runs[1].State = chief.Asking }, false},
		{"the second one is prepared", func(c *chief.Chief) { c.Runs[1].State = chief.Preparing }, false},
		{"the second one is committed", func(c *chief.Chief) { c.Runs[1].State = chief.Committed }, false},
		{"both", func(c *chief.Chief) { c.Runs[0], c.Runs[1] = c.Runs[1], c.Runs[0] }, false},
		{"a third one begins", func(c *chief.Chief) { c.Runs = append(c.Runs, run(chief.Asking)) }, false},
		{"a third one is prepared", func(c *chief.Chief) { c.Runs = append(c.Runs, run(chief.Preparing)) }, false},
		{"a third one is committed", func(c *chief.Chief) { c.Runs = append(c.Runs, run(chief.Committed)) }, false},
		{"a third one is aborted", func(c *chief.Chief) { c.Runs = append(c.Runs, run(chief.Aborted)) }, true},
		{"a third one has no state", func(c *chief.Chief) { c.Runs = append(c.Runs, run(0)) }, false},
		{"a third one has none that there is", func(c *chief.Chief) { c.Runs = append(c.Runs, run(chief.Aborted+1)) }, false},
		{"the second one isn't there", func(c *chief.Chief) { c.Runs = c.Runs[:1] }, true},
		{"none is there", func(c *chief.Chief) { c.Runs = nil }, false},
		{"the first one has no lines", func(c *chief.Chief) { c.Runs[0].Lines = nil }, true},
		{"the first one has one that is agreed", func(c *chief.Chief) { c.Runs[0].Lines = append(c.Runs[0].Lines, agreed) }, false},
		{"the first one has one of another amount", func(c *chief.Chief) {
			c.Runs[0].Lines = append(c.Runs[0].Lines, api.Line{ID: agreed.ID, Buyer: 1, Amount: 71})
		}, true},
		{"the second one has one that is agreed", func(c *chief.Chief) { c.Runs[1].Lines = []api.Line{agreed} }, true},
	} {
		list := rested(t)
		x.change(&list[3].Chief)
		rests(t, x.what, list, x.want)
	}
}

// P24.1: what an entity knows of a cycle counts, of each entity.
func TestRestOfParts(t *testing.T) {
	for i := range 3 {
		for n := range 2 {
			list := rested(t)
			list[i].Parts.List = slices.Delete(list[i].Parts.List, n, n+1)
			rests(t, fmt.Sprintf("%d doesn't know of %d", i, n+1), list, n == 1)
			for itsState := vote.Offered; itsState <= vote.Undone; itsState++ {
				list := rested(t)
				was := list[i].Parts.List[n].State
				list[i].Parts.List[n].State = itsState
				rests(t, fmt.Sprintf("%d has %d as %d", i, n+1, itsState), list, itsState == was)
			}
		}
	}
}

// P24.1: a state, a round, a cycle or a currency that one of both has otherwise isn't the same; one that isn't there, neither.
func TestRestOfItems(t *testing.T) {
	for i := range 3 {
		for j := range rested(t)[i].Desk.Book.Items {
			for what, change := range map[string]func(x *api.Item){
				"state":    func(x *api.Item) { x.State = 7 - x.State },
				"round":    func(x *api.Item) { x.Round++ },
				"cycle":    func(x *api.Item) { x.Cycle++ },
				"currency": func(x *api.Item) { x.Currency++ },
				"buyer":    func(x *api.Item) { x.Buyer = 7 },
				"name":     func(x *api.Item) { x.Number += 50 },
			} {
				list := rested(t)
				change(&list[i].Desk.Book.Items[j])
				rests(t, fmt.Sprintf("%d has another %s of %d", i, what, j), list, false)
			}
			list := rested(t)
			list[i].Desk.Book.Items = slices.Delete(list[i].Desk.Book.Items, j, j+1)
			rests(t, fmt.Sprintf("%d hasn't %d", i, j), list, false)
		}
	}
}

// P24.2: what is said is what each waits for: cycle by cycle, item by item, node by node.
func TestBound(t *testing.T) {
	g := made(t, 4)
	things := 0
	for currency := range 3 {
		does(t, g, starts(4, currency))
		things++
		bound(t, "a cycle begins", g.States(), things)
	}
	speaks(t, g, 4)
	things += 3 * 4 // each has its part
	bound(t, "all are asked", g.States(), things)
	for number := 1; number <= 9; number++ {
		seller := number % 4
		does(t, g, sells(seller, number, (seller+1)%4, 5))
		things++
		bound(t, "one is sold", g.States(), things)
	}
	for i := range 4 {
		speaks(t, g, i)
	}
	bound(t, "none is taken: they are disputed, but for what the last one sells", g.States(), things)
	does(t, g, says(1, api.Msg{Kind: msg.Withdraw, ID: name(1, 1)}))
	bound(t, "one is given up", g.States(), things-1)
}

// P24.2: a cycle that was changed by hand is waited for, too, if it isn't decided.
func TestBoundOfCycles(t *testing.T) {
	list := rested(t)
	for itsState, things := range []int{chief.Asking: 1, chief.Preparing: 1, chief.Committed: 0, chief.Aborted: 0} {
		list[3].Chief.Runs[0].State = itsState
		bound(t, fmt.Sprintf("the state %d", itsState), list, things)
	}
	list[3].Chief.Runs = append(list[3].Chief.Runs, chief.Run{State: chief.Asking}, chief.Run{State: chief.Asking})
	bound(t, "two more", list, 2)
}

// P24.2: there is room as long as nobody has said more than 2048 things to another node.
func TestRoom(t *testing.T) {
	for i := range 4 {
		for to := range 4 {
			for _, many := range []int{0, 1, 2047, 2048, 2049, link.MaxSaid} {
				list := rested(t)
				said := &list[i].Links.Peers[to].Said
				*said = slices.Repeat([]api.Msg{{Kind: msg.Query}}, many)
				want := many <= 2048 || i == to
				if got := calm.Room(list); got != want {
					t.Errorf("%d has said %d things to %d: %v, want %v", i, many, to, got, want)
				}
			}
		}
	}
}

// P24.2: what is said to several isn't too much, as long as it isn't to one of them.
func TestRoomOfEach(t *testing.T) {
	list := rested(t)
	for i := range list {
		for to := range list {
			if i != to {
				list[i].Links.Peers[to].Said = make([]api.Msg, 2048)
			}
		}
	}
	if !calm.Room(list) {
		t.Error("all have room")
	}
}

// P1: no call panics, whatever it is given.
func TestWild(t *testing.T) {
	odd := api.Item{ID: name(math.MinInt, 0), Buyer: math.MaxInt, Currency: -1, Amount: math.MinInt64, State: item.Agreed}
	other := api.Item{ID: name(0, math.MaxInt), Buyer: -1, Amount: math.MinInt64, State: item.Cancelled, Cycle: -1}
	lost := api.Item{ID: name(-1, 3), Buyer: 0, State: item.Settled}
	var states []state.State
	for _, me := range []int{math.MinInt, -1, 0, 1, math.MaxInt} {
		for _, n := range []int{math.MinInt, 0, 1, math.MaxInt} {
			s := state.State{Me: me, N: n}
			states = append(states, s)
			for _, items := range [][]api.Item{{other}, {lost}, {odd, lost}, {odd, other}} {
				s.Desk.Book.Items = items
				states = append(states, s)
			}
			s.Parts.List = []vote.Part{{Cycle: -1, State: vote.Done}}
			states = append(states, s)
			s.Chief.Runs = []chief.Run{{State: chief.Committed, Lines: []api.Line{{Buyer: -1}}}, {State: -3}}
			s.Links.Me, s.Links.Peers = me, make([]link.Peer, 3)
			states = append(states, s)
		}
	}
	for _, s := range states {
		for _, u := range states {
			for _, list := range [][]state.State{{s}, {s, u}, {s, u, s}, {u, s, s, u, s, u, u, s, u, s, s}} {
				calm.Rest(list)
				calm.Room(list)
				if calm.Bound(list) < 39 {
					t.Fatalf("Bound of %+v", list)
				}
			}
		}
	}
}

// P2: what is handed in stays, and what is answered hangs on that alone.
func TestMemory(t *testing.T) {
	list := rested(t)
	was := fmt.Sprintf("%+v", list)
	for range 3 {
		if !calm.Rest(list) || calm.Bound(list) != 39 || !calm.Room(list) {
			t.Error("another answer")
		}
	}
	if got := fmt.Sprintf("%+v", list); got != was {
		t.Errorf("the states are %s, were %s", got, was)
	}
}
