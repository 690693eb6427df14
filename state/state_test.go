package state_test

import (
	"math"
	"reflect"
	"slices"
	"testing"

	"contra/api"
	"contra/book"
	"contra/chief"
	"contra/item"
	"contra/link"
	"contra/match"
	"contra/msg"
	"contra/state"
	"contra/vote"
)

// group is how many entities most tests are about; far is how far amounts may be apart there.
const (
	group = 3
	far   = 5
)

// wild are numbers inside and outside what is taken.
func wild() []int {
	return []int{math.MinInt, math.MinInt + 1, -2, -1, 0, 1, 2, 3, 4, 5, 6, 7, 8, 9, 10, 1 << 20, 1<<20 + 1, 1 << 32, math.MaxInt - 1, math.MaxInt}
}

// fresh is a node of the group to which nothing was told.
func fresh(t *testing.T, me int) state.State {
	t.Helper()
	s, e := state.New(me, group, far)
	if e != api.OK {
		t.Fatalf("New %d: %v", me, e)
	}
	return s
}

// asked is something that a client, or a clock, says.
func asked(m api.Msg) state.Event { return state.Event{From: match.Client, Msg: m} }

// next is the next thing that a node hears of another one.
func next(s state.State, from int, m api.Msg) state.Event {
	return state.Event{From: from, Number: s.Links.Peers[from].Heard + 1, Msg: m}
}

// applied is the node behind an event that has to be taken.
func applied(t *testing.T, s state.State, x state.Event) state.State {
	t.Helper()
	s, e := s.Apply(x)
	if e != api.OK {
		t.Fatalf("Apply %+v: %v", x, e)
	}
	return s
}

// ask is the node behind what clients say; tell is it behind what another node says; both have to be taken.
func ask(t *testing.T, s state.State, list ...api.Msg) state.State {
	t.Helper()
	for _, m := range list {
		s = applied(t, s, asked(m))
	}
	return s
}

func tell(t *testing.T, s state.State, from int, list ...api.Msg) state.State {
	t.Helper()
	for _, m := range list {
		s = applied(t, s, next(s, from, m))
	}
	return s
}

// name is an item's name.
func name(seller, number int) api.ID { return api.ID{Seller: seller, Number: number} }

// issue, order, propose and about are messages about an item; about has no more than what an answer has to have.
func issue(seller, number, buyer int, amount int64) api.Msg {
	return api.Msg{Kind: msg.Issue, ID: name(seller, number), Buyer: buyer, Currency: 1, Amount: amount}
}

func order(seller, number int, amount int64) api.Msg {
	return api.Msg{Kind: msg.Order, ID: name(seller, number), Amount: amount}
}

func propose(seller, number, buyer int, amount int64) api.Msg {
	m := issue(seller, number, buyer, amount)
	m.Kind = msg.Propose
	return m
}

func about(kind, seller, number, round int) api.Msg {
	return api.Msg{Kind: kind, ID: name(seller, number), Round: round}
}

// of is a message about a cycle.
func of(kind, cycle int) api.Msg { return api.Msg{Kind: kind, Cycle: cycle} }

// copiedMsg is a message in memory of its own, no list being nil.
func copiedMsg(m api.Msg) api.Msg {
	m.Lines, m.Nets = append([]api.Line{}, m.Lines...), append([]int64{}, m.Nets...)
	return m
}

// copied is a node, likewise.
func copied(s state.State) state.State {
	b := &s.Desk.Book
	b.Items, b.Orders = append([]api.Item{}, b.Items...), append([]book.Order{}, b.Orders...)
	s.Parts.List = append([]vote.Part{}, s.Parts.List...)
	for i, x := range s.Parts.List {
		s.Parts.List[i].Lines = append([]api.Line{}, x.Lines...)
	}
	s.Chief.Runs = append([]chief.Run{}, s.Chief.Runs...)
	for i, x := range s.Chief.Runs {
		x.From = append([]chief.Heard{}, x.From...)
		for j, h := range x.From {
			x.From[j].Lines = append([]api.Line{}, h.Lines...)
		}
		x.Lines, x.Nets = append([]api.Line{}, x.Lines...), append([]int64{}, x.Nets...)
		s.Chief.Runs[i] = x
	}
	s.Links.Peers = append([]link.Peer{}, s.Links.Peers...)
	for i, p := range s.Links.Peers {
		said := []api.Msg{}
		for _, m := range p.Said {
			said = append(said, copiedMsg(m))
		}
		s.Links.Peers[i].Said = said
	}
	return s
}

// same says that a node is just as it should be.
func same(t *testing.T, call string, s, want state.State) {
	t.Helper()
	if a, b := copied(s), copied(want); !reflect.DeepEqual(a, b) {
		t.Errorf("%s: %+v, want %+v", call, a, b)
	}
}

// refuses says with which error Apply answers, and that nothing has changed then.
func refuses(t *testing.T, s state.State, x state.Event, want api.Errno) {
	t.Helper()
	before := copied(s)
	got, e := s.Apply(x)
	if e != want {
		t.Errorf("Apply %+v: %v, want %v", x, e, want)
	}
	same(t, "beside an error of Apply", got, before)
	same(t, "behind a refused Apply", s, before)
}

// ignores says that something is heard of a node, and nothing else has changed.
func ignores(t *testing.T, s state.State, from int, m api.Msg) {
	t.Helper()
	want := copied(s)
	want.Links.Peers[from].Heard++
	before := copied(s)
	got, e := s.Apply(next(s, from, m))
	if e != api.OK {
		t.Errorf("Apply %+v of %d: %v", m, from, e)
	}
	same(t, "behind what can't be done", got, want)
	same(t, "what Apply was called on", s, before)
}

// says says which are the last things that a node has said to another one.
func says(t *testing.T, s state.State, to int, want ...api.Msg) {
	t.Helper()
	list := s.Links.Peers[to].Said
	list = list[max(0, len(list)-len(want)):]
	if !slices.EqualFunc(list, want, func(m, n api.Msg) bool { return reflect.DeepEqual(copiedMsg(m), copiedMsg(n)) }) {
		t.Errorf("%d says %+v to %d, want %+v", s.Me, list, to, want)
	}
}

// P19.1
func TestNew(t *testing.T) {
	for _, n := range wild() {
		for _, me := range wild() {
			for _, far := range []int64{math.MinInt64, -1, 0, 1, 5, math.MaxInt64} {
				s, e := state.New(me, n, far)
				if n < 1 || n > 8 || me < 0 || me > n || far < 0 {
					if e != api.ErrRange || !reflect.DeepEqual(s, state.State{}) {
						t.Errorf("New %d, %d, %d: %+v, %v", me, n, far, s, e)
					}
					continue
				}
				want := state.State{Me: me, N: n, Links: link.Links{Me: me, Peers: make([]link.Peer, n+1)}}
				if me == n {
					want.Chief.N = n
				} else {
					want.Desk = match.Desk{Book: book.Book{Me: me}, Far: far}
					want.Parts = vote.Parts{Me: me, N: n}
				}
				if e != api.OK {
					t.Errorf("New %d, %d, %d: %v", me, n, far, e)
				}
				same(t, "New", s, want)
				if s.Coordinates() != (me == n) {
					t.Errorf("%d among %d: Coordinates %v", me, n, s.Coordinates())
				}
				if list := s.Dues(); len(list) != 0 {
					t.Errorf("New %d, %d waits for %+v", me, n, list)
				}
			}
		}
	}
}

// trader is 1, which has sold items to 0 and to 2, and buys some of them.
func trader(t *testing.T) state.State {
	t.Helper()
	s := ask(t, fresh(t, 1), issue(1, 9, 0, 90), issue(1, 2, 2, 20), issue(1, 3, 2, 30), issue(1, 4, 0, 40), issue(1, 5, 0, 50))
	s = ask(t, s, order(0, 1, 11), order(2, 8, 80))
	s = tell(t, s, 2, about(msg.Confirm, 1, 2, 0), about(msg.Dispute, 1, 3, 0), propose(2, 8, 1, 85), propose(2, 6, 1, 60))
	s = tell(t, s, 0, about(msg.Dispute, 1, 4, 0), propose(0, 1, 1, 17), about(msg.Dispute, 1, 9, 0))
	s = ask(t, s, api.Msg{Kind: msg.Adjust, ID: name(1, 4), Amount: 41})
	return tell(t, s, 0, about(msg.Dispute, 1, 4, 1))
}

// voter is the same, with parts in four cycles, of which two are decided.
func voter(t *testing.T) state.State {
	t.Helper()
	s := tell(t, trader(t), group, api.Msg{Kind: msg.Ask, Cycle: 5, Currency: 1})
	s = tell(t, s, group, api.Msg{Kind: msg.Prepare, Cycle: 5, Lines: lines(), Nets: []int64{0, -65, 65}}, api.Msg{Kind: msg.Decide, Cycle: 5, Yes: true})
	s = tell(t, s, group, of(msg.Ask, 9), of(msg.Decide, 9), of(msg.Ask, 7), of(msg.Ask, 2))
	return tell(t, s, group, of(msg.Prepare, 7))
}

// lines are those of the items that the trader has as agreed.
func lines() []api.Line {
	return []api.Line{{ID: name(1, 2), Buyer: 2, Amount: 20}, {ID: name(2, 8), Buyer: 1, Amount: 85}}
}

// leader is the coordinator, with a cycle in each state.
func leader(t *testing.T) state.State {
	t.Helper()
	s := fresh(t, group)
	for currency := range 4 {
		s = ask(t, s, api.Msg{Kind: msg.Start, Currency: currency})
		for who := range group {
			if currency > 0 || who > 1 {
				s = tell(t, s, who, api.Msg{Kind: msg.Offer, Cycle: currency + 1})
			}
		}
	}
	for who := range group {
		s = tell(t, s, who, api.Msg{Kind: msg.Vote, Cycle: 3, Yes: true})
	}
	return ask(t, s, of(msg.Due, 4))
}

// told is the node behind an event, as the chapter's words tell it by the layers below.
func told(s state.State, x state.Event) (state.State, api.Errno) {
	after, m := copied(s), x.Msg
	client := x.From == match.Client
	if !client {
		if next, _ := s.Links.Next(x.From, x.Number); !next {
			return s, api.ErrState
		}
		after.Links, _ = after.Links.Hear(x.From)
	}
	heard := copied(after)
	var said []match.Said
	var e api.Errno
	ofCycle := slices.Contains([]int{msg.Ask, msg.Prepare, msg.Decide}, m.Kind) || m.Kind == msg.Due && m.Cycle != 0
	switch {
	case s.Me == s.N:
		after.Chief, said, e = s.Chief.Do(m, x.From)
	case ofCycle:
		after.Parts, after.Desk.Book, said, e = s.Parts.Do(s.Desk.Book, m, x.From)
	case m.Kind == msg.Issue && m.Buyer > s.N-1 || m.Kind == msg.Order && m.Seller > s.N-1:
		e = api.ErrRange
	default:
		after.Desk, said, e = s.Desk.Do(m, x.From)
	}
	if e != api.OK && client {
		return s, e
	}
	if e != api.OK {
		return heard, api.OK
	}
	for _, y := range said {
		if after.Links, e = after.Links.Say(y.To, y.Msg); e != api.OK {
			return s, e
		}
	}
	return after, api.OK
}

// holds says that Apply answers what the words tell.
func holds(t *testing.T, s state.State, x state.Event) (state.State, api.Errno) {
	t.Helper()
	before := copied(s)
	want, f := told(s, x)
	want = copied(want)
	got, e := s.Apply(x)
	if e != f {
		t.Errorf("Apply %+v: %v, want %v", x, e, f)
	}
	same(t, "behind Apply", got, want)
	same(t, "what Apply was called on", s, before)
	return got, e
}

// P19.2: of each kind, by whomever it is said, and about whatever.
func TestWhatItDoes(t *testing.T) {
	counts := map[api.Errno]int{}
	for _, s := range []state.State{fresh(t, 1), trader(t), voter(t), fresh(t, group), leader(t)} {
		for kind := -1; kind <= msg.Due+1; kind++ {
			for from := match.Client; from <= group+1; from++ {
				for cycle := range 10 {
					for number := range 10 {
						m := api.Msg{Kind: kind, ID: name(number%4, number), Buyer: (number + 1) % 4, Currency: 1, Round: cycle % 2, Cycle: cycle, Amount: 20, Yes: true}
						if cycle%4 > 0 { // mostly of an item that it has, or may have
							m.ID, m.Buyer = name(1, number), from
						}
						x := state.Event{From: from, Msg: m}
						if from >= 0 && from <= group {
							x = next(s, from, m)
						}
						_, e := holds(t, s, x)
						counts[e]++
					}
				}
			}
		}
	}
	for _, e := range []api.Errno{api.OK, api.ErrRange, api.ErrMissing, api.ErrTwice, api.ErrState, api.ErrKind, api.ErrOther} {
		if counts[e] < 10 { // else it says little
			t.Errorf("%v came %d times", e, counts[e])
		}
	}
}

// P19.2: what the coordinator does, and what no entity does.
func TestTheCoordinatorKeepsCycles(t *testing.T) {
	s := fresh(t, group)
	for _, m := range []api.Msg{issue(1, 1, 0, 5), issue(0, 1, 1, 5), order(0, 1, 5), about(msg.Adjust, 0, 1, 0), about(msg.Withdraw, 0, 1, 0)} {
		refuses(t, s, asked(m), api.ErrKind)
	}
	refuses(t, s, asked(about(msg.Due, 0, 1, 0)), api.ErrMissing) // the cycle 0
	refuses(t, s, asked(api.Msg{Kind: msg.Start, Currency: 8}), api.ErrRange)
	s = ask(t, s, api.Msg{Kind: msg.Start, Currency: 6})
	for to := range group {
		says(t, s, to, api.Msg{Kind: msg.Ask, Cycle: 1, Currency: 6})
	}
	refuses(t, s, asked(api.Msg{Kind: msg.Start, Currency: 6}), api.ErrState)
	for _, kind := range []int{msg.Propose, msg.Ask, msg.Prepare, msg.Decide, msg.Query, msg.Start, msg.Due} {
		ignores(t, s, 0, of(kind, 1))
	}
	l := []api.Line{{ID: name(0, 1), Buyer: 1, Amount: 70}}
	for who := range group {
		if s = tell(t, s, who, api.Msg{Kind: msg.Offer, Cycle: 1, Lines: l[:min(1, 2-who)]}); len(s.Chief.Runs[0].From[who].Lines) != min(1, 2-who) {
			t.Errorf("what %d has offered: %+v", who, s.Chief.Runs)
		}
	}
	for to := range group {
		says(t, s, to, api.Msg{Kind: msg.Prepare, Cycle: 1, Lines: l, Nets: []int64{70, -70, 0}})
	}
	for who := range group {
		s = tell(t, s, who, api.Msg{Kind: msg.Vote, Cycle: 1, Yes: true})
	}
	for to := range group {
		says(t, s, to, api.Msg{Kind: msg.Decide, Cycle: 1, Yes: true})
	}
	e := fresh(t, 0)
	refuses(t, e, asked(api.Msg{Kind: msg.Start, Currency: 6}), api.ErrKind)
	ignores(t, e, 1, api.Msg{Kind: msg.Offer, Cycle: 1})
}

// P19.2: a Due with a cycle is one of that, else one of an item.
func TestDueOfACycleOrAnItem(t *testing.T) {
	s := voter(t)
	with := about(msg.Due, 1, 9, 0)
	with.Cycle = 7
	next := ask(t, s, with)
	says(t, next, group, of(msg.Query, 7))
	if x, _ := next.Desk.Book.Get(name(1, 9)); x.State != item.Disputed {
		t.Errorf("the item is %+v", x)
	}
	for _, cycle := range []int{-1, 1, 1 << 40} {
		with.Cycle = cycle
		refuses(t, s, asked(with), api.ErrMissing)
	}
	with.Cycle = 5
	refuses(t, s, asked(with), api.ErrState)
	with.Cycle = 0
	next = ask(t, s, with)
	if x, _ := next.Desk.Book.Get(name(1, 9)); x.State != item.Cancelled {
		t.Errorf("the item is %+v", x)
	}
	refuses(t, s, asked(about(msg.Due, 1, 8, 0)), api.ErrMissing)
	ignores(t, s, group, of(msg.Due, 7)) // no node says it
	ignores(t, s, 0, with)
}

// P19.2: an entity sells to entities alone, and buys of them; that goes ahead of all else.
func TestOfEntitiesThatThereAre(t *testing.T) {
	for n := 1; n <= api.MaxEntity; n++ {
		s, e := state.New(0, n, far)
		if e != api.OK {
			t.Fatalf("New: %v", e)
		}
		for _, other := range wild() {
			sold, bought := issue(0, 1, other, 5), order(other, 1, 5)
			if other < 1 || other >= n {
				refuses(t, s, asked(sold), api.ErrRange)
				refuses(t, s, asked(bought), api.ErrRange)
			} else {
				says(t, ask(t, s, sold), other, propose(0, 1, other, 5))
				ask(t, s, bought)
			}
			for from := 1; from <= n; from++ { // whatever comes of a node is heard
				ignores(t, s, from, sold)
				ignores(t, s, from, bought)
			}
		}
		foreign := issue(1, 1, n, 5)
		refuses(t, s, asked(foreign), api.ErrRange)
		if n > 1 {
			foreign.Buyer = 0
			refuses(t, s, asked(foreign), api.ErrOther)
			s = ask(t, s, issue(0, 1, 1, 5))
			refuses(t, s, asked(issue(0, 1, n, 5)), api.ErrRange)
			refuses(t, s, asked(issue(0, 1, 1, 5)), api.ErrTwice)
		}
	}
}

// P19.3: a thing is heard once, in its turn; a client's has no number.
func TestInItsTurn(t *testing.T) {
	for _, s := range []state.State{fresh(t, 1), trader(t), voter(t), leader(t)} {
		m := of(msg.Query, 3)
		if !s.Coordinates() {
			m = propose(0, 77, 1, 5)
		}
		for _, from := range wild() {
			for _, number := range append(wild(), s.Links.Peers[0].Heard+2, s.Links.Peers[2].Heard) {
				x := state.Event{From: from, Number: number, Msg: m}
				known := from >= 0 && from <= group && from != s.Me
				switch {
				case from == match.Client:
					refuses(t, s, x, api.ErrKind)
				case !known || number != s.Links.Peers[from].Heard+1:
					refuses(t, s, x, api.ErrState)
				default:
					after := applied(t, s, x)
					if after.Links.Peers[from].Heard != number {
						t.Errorf("heard %d of %d, want %d", after.Links.Peers[from].Heard, from, number)
					}
					refuses(t, after, x, api.ErrState)
				}
			}
		}
	}
	s := fresh(t, 1)
	for _, number := range wild() {
		x := asked(issue(1, 1, 0, 5))
		x.Number = number
		after := applied(t, s, x)
		says(t, after, 0, propose(1, 1, 0, 5))
		for i, p := range after.Links.Peers {
			if p.Heard != 0 {
				t.Errorf("heard %d of %d", p.Heard, i)
			}
		}
	}
}

// P19.3: what a node says, and can't be done, is heard all the same; what a client says isn't done.
func TestWhatCanNotBeDone(t *testing.T) {
	s := voter(t)
	for _, x := range []struct {
		from int
		msg  api.Msg
	}{
		{0, api.Msg{}}, {0, api.Msg{Kind: 99}}, {0, issue(1, 50, 2, 5)}, {0, order(2, 50, 5)}, // not said by nodes
		{0, propose(2, 50, 1, 5)}, {0, propose(0, 50, 2, 5)}, {0, propose(0, 1, 1, 5)}, {0, propose(0, 50, 1, 0)},
		{0, about(msg.Confirm, 1, 2, 0)}, {0, about(msg.Confirm, 1, 77, 0)}, {2, about(msg.Dispute, 1, 2, 0)},
		{0, of(msg.Ask, 50)}, {2, api.Msg{Kind: msg.Decide, Cycle: 7}}, {group, of(msg.Ask, 7)}, {group, of(msg.Ask, 0)},
		{group, of(msg.Prepare, 7)}, {group, of(msg.Prepare, 50)}, {group, api.Msg{Kind: msg.Decide, Cycle: 7, Yes: true}}, {group, of(msg.Decide, 5)},
	} {
		ignores(t, s, x.from, x.msg)
	}
	for _, x := range []struct {
		msg  api.Msg
		want api.Errno
	}{
		{api.Msg{}, api.ErrKind}, {api.Msg{Kind: 99}, api.ErrKind}, {propose(0, 50, 1, 5), api.ErrKind}, {of(msg.Ask, 50), api.ErrKind}, {of(msg.Decide, 7), api.ErrKind},
		{issue(0, 50, 1, 5), api.ErrOther}, {issue(1, 9, 0, 5), api.ErrTwice}, {issue(1, 50, 0, 0), api.ErrRange}, {issue(1, 50, 1, 5), api.ErrRange}, {issue(1, 0, 0, 5), api.ErrRange},
		{order(1, 50, 5), api.ErrRange}, {order(0, 50, 0), api.ErrRange},
		{about(msg.Adjust, 1, 50, 0), api.ErrMissing}, {about(msg.Adjust, 2, 8, 0), api.ErrOther}, {about(msg.Adjust, 1, 2, 0), api.ErrState}, {about(msg.Adjust, 1, 9, 0), api.ErrRange},
		{about(msg.Withdraw, 1, 5, 0), api.ErrState}, {about(msg.Due, 1, 9, 1), api.ErrState}, {of(msg.Due, 9), api.ErrState}, {of(msg.Due, 50), api.ErrMissing},
	} {
		refuses(t, s, asked(x.msg), x.want)
	}
	full := s
	for number := 100; len(full.Desk.Book.Items) < book.MaxItems; number++ {
		full = ask(t, full, issue(1, number, 0, 5))
	}
	refuses(t, full, asked(issue(1, 99, 0, 5)), api.ErrFull)
	ignores(t, full, 0, propose(0, 99, 1, 5))
}

// P19.3: what is said is said to each, behind what was said to it.
func TestWhatIsSaid(t *testing.T) {
	s := trader(t)
	says(t, s, 0, propose(1, 9, 0, 90), propose(1, 4, 0, 40), propose(1, 5, 0, 50),
		api.Msg{Kind: msg.Dispute, ID: name(0, 1), Buyer: 1, Currency: 1, Amount: 17},
		api.Msg{Kind: msg.Propose, ID: name(1, 4), Buyer: 0, Currency: 1, Round: 1, Amount: 41})
	says(t, s, 2, propose(1, 2, 2, 20), propose(1, 3, 2, 30),
		api.Msg{Kind: msg.Confirm, ID: name(2, 8), Buyer: 1, Currency: 1, Amount: 85},
		api.Msg{Kind: msg.Dispute, ID: name(2, 6), Buyer: 1, Currency: 1, Amount: 60})
	if heard := []int{s.Links.Peers[0].Heard, s.Links.Peers[1].Heard, s.Links.Peers[2].Heard, s.Links.Peers[3].Heard}; !slices.Equal(heard, []int{4, 0, 4, 0}) {
		t.Errorf("heard %v", heard)
	}
	if n := len(s.Links.Peers[group].Said); n != 0 {
		t.Errorf("%d things are said to the coordinator", n)
	}
	s = voter(t)
	says(t, s, group, api.Msg{Kind: msg.Offer, Cycle: 5, Lines: lines()}, api.Msg{Kind: msg.Vote, Cycle: 5, Yes: true}, of(msg.Offer, 9), of(msg.Offer, 7), of(msg.Offer, 2), of(msg.Vote, 7))
	if n := len(s.Links.Peers[0].Said); n != 5 {
		t.Errorf("%d things are said to 0", n)
	}
}

// P19.3: where there is no room for what is said nothing is done, and nothing heard.
func TestNoRoomForWhatIsSaid(t *testing.T) {
	s := tell(t, fresh(t, 1), group, of(msg.Ask, 4))
	for range link.MaxSaid - 1 {
		s = ask(t, s, of(msg.Due, 4))
	}
	if n := len(s.Links.Peers[group].Said); n != link.MaxSaid {
		t.Fatalf("%d things are said", n)
	}
	refuses(t, s, asked(of(msg.Due, 4)), api.ErrFull)
	refuses(t, s, next(s, group, of(msg.Ask, 5)), api.ErrFull)
	refuses(t, s, next(s, group, of(msg.Prepare, 4)), api.ErrFull)
	refuses(t, s, asked(of(msg.Due, 5)), api.ErrMissing) // what can't be done has nothing to say
	ignores(t, s, group, of(msg.Prepare, 5))
	s = tell(t, s, group, of(msg.Decide, 4)) // nor has this
	if x, _ := s.Parts.Get(4); x.State != vote.Undone {
		t.Errorf("the cycle is %+v", x)
	}
	says(t, ask(t, s, issue(1, 1, 0, 5)), 0, propose(1, 1, 0, 5)) // others are told something still
}

// P19.3: likewise where all are told something, and there is no room for the last one alone.
func TestNoRoomForWhatOneOfAllIsTold(t *testing.T) {
	s := ask(t, fresh(t, group), api.Msg{Kind: msg.Start}, of(msg.Due, 1), api.Msg{Kind: msg.Start})
	for len(s.Links.Peers[2].Said) < link.MaxSaid {
		s = tell(t, s, 2, of(msg.Query, 1))
	}
	refuses(t, s, asked(of(msg.Due, 2)), api.ErrFull)
	refuses(t, s, asked(api.Msg{Kind: msg.Start, Currency: 1}), api.ErrFull)
	refuses(t, s, next(s, 2, of(msg.Query, 1)), api.ErrFull)
	says(t, tell(t, s, 1, of(msg.Query, 1)), 1, of(msg.Decide, 1))
	s = tell(t, s, 0, of(msg.Offer, 2))
	s = tell(t, s, 2, of(msg.Offer, 2))
	refuses(t, s, next(s, 1, of(msg.Offer, 2)), api.ErrFull)
}

// P19.4
func TestDues(t *testing.T) {
	waits := func(s state.State, want ...api.Msg) {
		t.Helper()
		before := copied(s)
		for range 2 {
			if list := s.Dues(); !slices.EqualFunc(list, want, func(m, n api.Msg) bool { return reflect.DeepEqual(copiedMsg(m), copiedMsg(n)) }) {
				t.Errorf("%d waits for %+v, want %+v", s.Me, list, want)
			}
		}
		same(t, "behind Dues", s, before)
	}
	waits(trader(t), about(msg.Due, 1, 3, 0), about(msg.Due, 1, 4, 1), about(msg.Due, 1, 9, 0))
	s := voter(t)
	waits(s, of(msg.Due, 2), of(msg.Due, 7), about(msg.Due, 1, 3, 0), about(msg.Due, 1, 4, 1), about(msg.Due, 1, 9, 0))
	for _, m := range s.Dues() {
		ask(t, s, m) // its clock may say all of these
	}
	s = ask(t, s, api.Msg{Kind: msg.Withdraw, ID: name(1, 9)}, api.Msg{Kind: msg.Adjust, ID: name(1, 4), Amount: 7})
	s = tell(t, s, group, of(msg.Decide, 2))
	waits(s, of(msg.Due, 7), about(msg.Due, 1, 3, 0))
	s = tell(t, s, 0, about(msg.Dispute, 1, 4, 2))
	waits(s, of(msg.Due, 7), about(msg.Due, 1, 3, 0), about(msg.Due, 1, 4, 2))
	s = leader(t)
	waits(s, of(msg.Due, 1), of(msg.Due, 2))
	for _, m := range s.Dues() {
		s = ask(t, s, m)
	}
	waits(s)
	waits(ask(t, s, api.Msg{Kind: msg.Start, Currency: 7}), of(msg.Due, 5))
}

// P1: also of nodes that no call answers.
func TestAllCallsEnd(t *testing.T) {
	odd := state.State{Me: 2, N: -1, Links: link.Links{Me: 2, Peers: make([]link.Peer, 3)}}
	for _, s := range []state.State{{}, odd, {Me: 1, N: 1 << 40}, trader(t), voter(t), leader(t)} {
		s.Coordinates()
		s.Dues()
		for _, a := range wild() {
			for _, b := range wild() {
				for kind := -1; kind <= msg.Due+1; kind++ {
					m := api.Msg{Kind: kind, ID: name(a, b), Buyer: b, Currency: a, Round: b, Cycle: a, Amount: int64(b), Lines: make([]api.Line, 3), Nets: []int64{int64(a)}}
					s.Apply(state.Event{From: b, Number: a, Msg: m})
					s.Apply(asked(m))
					if a >= 0 && a < len(s.Links.Peers) {
						s.Apply(next(s, a, m))
					}
				}
			}
		}
	}
}

// P2: what is handed in is neither changed nor kept; what is answered shares nothing that can be changed with it.
func TestWhatIsHandedInIsNotKept(t *testing.T) {
	offer := append(make([]api.Line, 0, 9), api.Line{ID: name(0, 1), Buyer: 1, Amount: 70})
	s := ask(t, fresh(t, group), api.Msg{Kind: msg.Start})
	s = tell(t, s, 2, of(msg.Offer, 1))
	s = tell(t, s, 0, api.Msg{Kind: msg.Offer, Cycle: 1, Lines: offer})
	s = tell(t, s, 1, api.Msg{Kind: msg.Offer, Cycle: 1, Lines: offer})
	v := tell(t, trader(t), group, api.Msg{Kind: msg.Ask, Cycle: 5, Currency: 1})
	prepared, nets := append(make([]api.Line, 0, 9), lines()...), append(make([]int64, 0, 9), 0, -65, 65)
	v = tell(t, v, group, api.Msg{Kind: msg.Prepare, Cycle: 5, Lines: prepared, Nets: nets})
	if offer[0].Amount != 70 || len(offer) != 1 || !slices.Equal(prepared, lines()) || !slices.Equal(nets, []int64{0, -65, 65}) {
		t.Errorf("handed in: %+v, %+v, %v", offer, prepared, nets)
	}
	before, old := copied(s), copied(v)
	for _, list := range [][]api.Line{offer[:9], prepared[:9]} {
		for i := range list {
			list[i] = api.Line{Buyer: 99}
		}
	}
	nets[0] = 99
	same(t, "behind a change of what was offered", s, before)
	same(t, "behind a change of what was prepared", v, old)
	dues := v.Dues()
	for i := range dues {
		dues[i] = api.Msg{Kind: 99}
	}
	same(t, "behind a change of what was answered", v, old)
	if list := v.Dues(); len(list) != 4 || list[0].Cycle != 5 {
		t.Errorf("Dues: %+v", list)
	}
}

// P2: from one node many others may come, and none of them changes another one.
func TestNodesStayAsTheyAre(t *testing.T) {
	for _, s := range []state.State{trader(t), voter(t), leader(t)} {
		var list, kept []state.State
		for kind := 1; kind <= msg.Due; kind++ {
			for from := match.Client; from <= group; from++ {
				for number := 1; number < 60; number++ {
					m := api.Msg{Kind: kind, ID: name(1, number), Buyer: 1, Currency: 1, Cycle: number % 10, Amount: 20, Yes: number%2 == 0}
					if from != match.Client {
						m.ID.Seller = from
					} else {
						m.Buyer = 2
					}
					x := asked(m)
					if from != match.Client {
						x = next(s, from, m)
					}
					if after, e := s.Apply(x); e == api.OK {
						list, kept = append(list, after), append(kept, copied(after))
					}
				}
			}
		}
		if len(list) < 100 {
			t.Errorf("only %d nodes", len(list))
		}
		for i := range list {
			same(t, "one of many", list[i], kept[i])
		}
	}
}
