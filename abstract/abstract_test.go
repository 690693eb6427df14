package abstract_test

import (
	"fmt"
	"math"
	"slices"
	"testing"

	"contra/abstract"
	"contra/api"
	"contra/book"
	"contra/chief"
	"contra/item"
	"contra/match"
	"contra/msg"
	"contra/state"
	"contra/vote"
)

// firms are the nodes of a group, the coordinator last, that hear of each other when a test says so.
type firms []state.State

// newFirms are so many entities, that take amounts five apart, and their coordinator.
func newFirms(t *testing.T, n int) firms {
	t.Helper()
	var list firms
	for i := range n + 1 {
		s, e := state.New(i, n, 5)
		if e != api.OK {
			t.Fatalf("New: %v", e)
		}
		list = append(list, s)
	}
	return list
}

// apply has a node be told something, which has to be taken.
func (f firms) apply(t *testing.T, i int, x state.Event) {
	t.Helper()
	s, e := f[i].Apply(x)
	if e != api.OK {
		t.Fatalf("Apply %+v: %v", x, e)
	}
	f[i] = s
}

// says has a client, or a clock, say something to a node.
func (f firms) says(t *testing.T, i int, m api.Msg) {
	t.Helper()
	f.apply(t, i, state.Event{From: match.Client, Msg: m})
}

// tells has a node hear all that another one has said to it.
func (f firms) tells(t *testing.T, from, to int) {
	t.Helper()
	for _, p := range f[from].Links.Packets(to, f[to].Links.Peers[from].Heard) {
		if p.Number > 0 {
			f.apply(t, to, state.Event{From: from, Number: p.Number, Msg: p.Msg})
		}
	}
}

// sells, expects and adjusts have a client speak of an item that 0 sells to 1.
func (f firms) sells(t *testing.T, number int, amount int64) {
	t.Helper()
	f.says(t, 0, api.Msg{Kind: msg.Issue, ID: name(0, number), Buyer: 1, Currency: 2, Amount: amount})
}

func (f firms) expects(t *testing.T, number int, amount int64) {
	t.Helper()
	f.says(t, 1, api.Msg{Kind: msg.Order, ID: name(0, number), Amount: amount})
}

func (f firms) adjusts(t *testing.T, number int, amount int64) {
	t.Helper()
	f.says(t, 0, api.Msg{Kind: msg.Adjust, ID: name(0, number), Amount: amount})
}

// name is an item's name.
func name(seller, number int) api.ID { return api.ID{Seller: seller, Number: number} }

// sold is the item 1 that 0 has sold to 1, in a state.
func sold(amount int64, round, itsState, cycle int) api.Item {
	return api.Item{ID: name(0, 1), Buyer: 1, Currency: 2, Amount: amount, Round: round, State: itsState, Cycle: cycle}
}

// seen holds a group's view against the one that is wanted; all its nodes have to be behind that.
func seen(t *testing.T, what string, f firms, want ...api.Item) {
	t.Helper()
	got := abstract.Of(f)
	if !slices.Equal(got, want) {
		t.Errorf("%s: %+v, want %+v", what, got, want)
	}
	for _, s := range f {
		if !abstract.Behind(s, got) {
			t.Errorf("%s: %d isn't behind %+v", what, s.Me, got)
		}
	}
}

// has says in which state, and of which cycle, a node has the item 1 of 0.
func has(t *testing.T, f firms, i, itsState, cycle int) {
	t.Helper()
	if x, _ := f[i].Desk.Book.Get(name(0, 1)); x.State != itsState || x.Cycle != cycle {
		t.Fatalf("%d has %+v, want the state %d, the cycle %d", i, x, itsState, cycle)
	}
}

// P23.1: nothing is seen where nothing is, and only what a seller has; a buyer that takes it has it agreed.
func TestOfAgreed(t *testing.T) {
	if got := abstract.Of(nil); len(got) != 0 {
		t.Errorf("of no states: %+v", got)
	}
	f := newFirms(t, 3)
	seen(t, "new", f)
	f.expects(t, 1, 72)
	seen(t, "expected", f)
	f.sells(t, 1, 70)
	seen(t, "sold", f, sold(70, 0, item.Proposed, 0))
	f.tells(t, 0, 1)
	has(t, f, 0, item.Proposed, 0)
	seen(t, "its buyer has taken it", f, sold(70, 0, item.Agreed, 0))
	f.tells(t, 1, 0)
	has(t, f, 0, item.Agreed, 0)
	seen(t, "its seller knows", f, sold(70, 0, item.Agreed, 0))
}

// P23.1: what is disputed is disputed in that round alone, and only while its seller has it as proposed.
func TestOfDisputed(t *testing.T) {
	f := newFirms(t, 2)
	f.sells(t, 1, 70)
	f.tells(t, 0, 1)
	has(t, f, 0, item.Proposed, 0)
	seen(t, "its buyer doesn't take it", f, sold(70, 0, item.Disputed, 0))
	f.tells(t, 1, 0)
	has(t, f, 0, item.Disputed, 0)
	seen(t, "its seller knows", f, sold(70, 0, item.Disputed, 0))
	for round := 1; round <= item.MaxRound; round++ {
		amount := int64(70 - round)
		f.adjusts(t, 1, amount)
		has(t, f, 1, item.Disputed, 0)
		seen(t, "it is proposed once more", f, sold(amount, round, item.Proposed, 0))
		f.tells(t, 0, 1)
		has(t, f, 0, item.Proposed, 0)
		seen(t, "it isn't taken once more", f, sold(amount, round, item.Disputed, 0))
		if round < item.MaxRound {
			f.tells(t, 1, 0)
			has(t, f, 0, item.Disputed, 0)
			seen(t, "its seller knows that", f, sold(amount, round, item.Disputed, 0))
		}
	}
	f.tells(t, 1, 0)
	has(t, f, 0, item.Cancelled, 0)
	has(t, f, 1, item.Disputed, 0)
	seen(t, "its seller gives it up", f, sold(67, item.MaxRound, item.Cancelled, 0))
	f.tells(t, 0, 1)
	has(t, f, 1, item.Cancelled, 0)
	seen(t, "its buyer knows", f, sold(67, item.MaxRound, item.Cancelled, 0))
}

// P23.1: what is adjusted, and taken then, has the seller's amount.
func TestOfAdjusted(t *testing.T) {
	f := newFirms(t, 2)
	f.expects(t, 1, 50)
	f.sells(t, 1, 70)
	f.tells(t, 0, 1)
	f.tells(t, 1, 0)
	f.adjusts(t, 1, 52)
	f.tells(t, 0, 1)
	has(t, f, 0, item.Proposed, 0)
	has(t, f, 1, item.Agreed, 0)
	seen(t, "taken", f, sold(52, 1, item.Agreed, 0))
}

// cycled are two entities with the item 1, and a cycle to which both said yes; the coordinator has heard of the first.
func cycled(t *testing.T) firms {
	t.Helper()
	f := newFirms(t, 2)
	f.expects(t, 1, 72)
	f.sells(t, 1, 70)
	f.tells(t, 0, 1)
	f.tells(t, 1, 0)
	f.says(t, 2, api.Msg{Kind: msg.Start, Currency: 5}) // with nothing in it
	f.says(t, 2, api.Msg{Kind: msg.Start, Currency: 2})
	for i := range 2 {
		f.tells(t, 2, i)
		has(t, f, i, item.Agreed, 2)
		seen(t, "a cycle has it", f, sold(70, 0, item.Agreed, 0))
		f.tells(t, i, 2)
	}
	f.tells(t, 2, 0)
	f.tells(t, 2, 1)
	f.tells(t, 0, 2)
	seen(t, "one has said yes", f, sold(70, 0, item.Agreed, 0))
	return f
}

// P23.1: what is committed is settled, by that cycle, whoever knows of it.
func TestOfSettled(t *testing.T) {
	for first := range 2 {
		f := cycled(t)
		f.tells(t, 1, 2)
		has(t, f, 0, item.Agreed, 2)
		has(t, f, 1, item.Agreed, 2)
		seen(t, "it is committed", f, sold(70, 0, item.Settled, 2))
		f.tells(t, 2, first)
		has(t, f, first, item.Settled, 2)
		has(t, f, 1-first, item.Agreed, 2)
		seen(t, "one knows it", f, sold(70, 0, item.Settled, 2))
		f.tells(t, 2, 1-first)
		has(t, f, 1-first, item.Settled, 2)
		seen(t, "both know it", f, sold(70, 0, item.Settled, 2))
	}
}

// P23.1: what was in a cycle that is given up is agreed, and as free as it was.
func TestOfAborted(t *testing.T) {
	f := cycled(t)
	f.says(t, 2, api.Msg{Kind: msg.Due, Cycle: 2})
	if run, _ := f[2].Chief.Get(2); run.State != chief.Aborted || len(run.Lines) != 1 {
		t.Fatalf("the cycle is %+v", run)
	}
	seen(t, "it is aborted", f, sold(70, 0, item.Agreed, 0))
	f.tells(t, 2, 0)
	seen(t, "one knows it", f, sold(70, 0, item.Agreed, 0))
	f.says(t, 0, api.Msg{Kind: msg.Issue, ID: name(0, 2), Buyer: 1, Currency: 2, Amount: 70})
	seen(t, "another one is sold", f, sold(70, 0, item.Agreed, 0), api.Item{ID: name(0, 2), Buyer: 1, Currency: 2, Amount: 70, State: item.Proposed})
}

// P23.1: if the coordinator's cycles, changed by hand, don't have it, what its seller has as settled is so by no cycle, and what its buyer has as settled is agreed.
func TestOfSettledByNone(t *testing.T) {
	for knows, want := range []api.Item{sold(70, 0, item.Settled, 0), sold(70, 0, item.Agreed, 0)} {
		f := cycled(t)
		f.tells(t, 1, 2)
		f.tells(t, 2, knows)
		has(t, f, knows, item.Settled, 2)
		runs := slices.Clone(f[2].Chief.Runs)
		runs[1].State = chief.Aborted
		f[2].Chief.Runs = runs
		if got := abstract.Of(f); !slices.Equal(got, abstract.View{want}) {
			t.Errorf("%d knows that it is settled: %+v, want %+v", knows, got, want)
		}
	}
}

// P23.1: whatever a seller and a buyer have of one item, and whether a cycle of it is committed.
func TestOfEachTwo(t *testing.T) {
	f := newFirms(t, 2)
	f[2].Chief.Runs = []chief.Run{
		{State: chief.Aborted, Lines: []api.Line{{ID: name(0, 1), Buyer: 1, Amount: 70}}},
		{State: chief.Committed, Lines: []api.Line{{ID: name(0, 1), Buyer: 1, Amount: 1}, {ID: name(0, 2), Buyer: 1, Amount: 70}}},
	}
	counts := map[int]int{}
	for _, x := range variants(1) {
		for _, y := range variants(1) {
			if item.Check(x) != api.OK || item.Check(y) != api.OK || x.Buyer != 1 {
				continue
			}
			f[0].Desk.Book.Items, f[1].Desk.Book.Items = []api.Item{x}, []api.Item{y}
			got, want := abstract.Of(f), viewed(f)
			if !slices.Equal(got, want) {
				t.Fatalf("of %+v and %+v: %+v, want %+v", x, y, got, want)
			}
			counts[want[0].State]++
		}
	}
	for itsState := item.Proposed; itsState <= item.Settled; itsState++ {
		if counts[itsState] < 300 {
			t.Errorf("%v", counts)
		}
	}
}

// P23.1: items stand in the order of their names, each once, whoever sells them, and in whatever order they are sold.
func TestOfOrder(t *testing.T) {
	f := newFirms(t, 4)
	var want []api.Item
	for _, id := range []api.ID{name(2, 9), name(0, 3), name(3, 1), name(0, 1), name(2, 2), name(0, 2)} {
		f.says(t, id.Seller, api.Msg{Kind: msg.Issue, ID: id, Buyer: (id.Seller + id.Number) % 4, Amount: int64(id.Number)})
		want = append(want, api.Item{ID: id, Buyer: (id.Seller + id.Number) % 4, Amount: int64(id.Number), State: item.Proposed})
	}
	slices.SortFunc(want, func(a, b api.Item) int { return book.Compare(a.ID, b.ID) })
	seen(t, "sold", f, want...)
	for from := range 4 {
		for to := range 4 {
			f.tells(t, from, to)
		}
	}
	for i := range want {
		want[i].State = item.Disputed
	}
	seen(t, "disputed", f, want...)
}

// P23.1: Get tells what is there, and nothing of what isn't.
func TestGet(t *testing.T) {
	var v abstract.View
	for seller := range 3 {
		for number := 2; number < 9; number += 2 {
			v = append(v, api.Item{ID: name(2*seller, number), Buyer: 7, Amount: int64(10*seller + number), State: item.Proposed})
		}
	}
	found := 0
	for seller := -1; seller < 9; seller++ {
		for number := -1; number < 12; number++ {
			id := name(seller, number)
			i := slices.IndexFunc(v, func(x api.Item) bool { return x.ID == id })
			want := api.Item{}
			if i >= 0 {
				want = v[i]
				found++
			}
			if x, there := v.Get(id); x != want || there != (i >= 0) {
				t.Errorf("Get %v: %+v, %v; want %+v", id, x, there, want)
			}
			if x, there := abstract.View(nil).Get(id); x != (api.Item{}) || there {
				t.Errorf("Get %v of nothing: %+v, %v", id, x, there)
			}
		}
	}
	if found != len(v) {
		t.Errorf("%d of %d were found", found, len(v))
	}
}

// variants are items of a name that differ in all ways, some of which can't be.
func variants(number int) []api.Item {
	var list []api.Item
	for itsState := range 7 {
		for round := range item.MaxRound + 2 {
			for _, cycle := range []int{0, 3, 4} {
				for _, amount := range []int64{0, 1, 70, api.MaxAmount, api.MaxAmount + 1} {
					x := sold(amount, round, itsState, cycle)
					x.Number = number
					list = append(list, x)
				}
			}
		}
	}
	for _, change := range []func(x *api.Item){
		func(x *api.Item) { x.Buyer = 2 },
		func(x *api.Item) { x.Currency = 3 },
		func(x *api.Item) { x.Cycle = -1 },
		func(x *api.Item) { x.Cycle = item.MaxCycle },
		func(x *api.Item) { x.Cycle = item.MaxCycle + 1 },
	} {
		for itsState := item.Proposed; itsState <= item.Settled; itsState++ {
			x := sold(70, 0, itsState, 0)
			x.Number = number
			change(&x)
			list = append(list, x)
		}
	}
	return list
}

// comesOn says whether an item is another one that came one step on, as the chapter's words tell of it.
func comesOn(x, y api.Item) bool {
	same := x.ID == y.ID && x.Buyer == y.Buyer && x.Currency == y.Currency
	alike := same && x.Amount == y.Amount && x.Round == y.Round
	kept := alike && x.Cycle == y.Cycle
	switch {
	case x.State == item.Proposed && (y.State == item.Disputed || y.State == item.Agreed):
		return kept
	case x.State == item.Disputed && y.State == item.Cancelled:
		return kept
	case x.State == item.Disputed && y.State == item.Proposed:
		return same && x.Cycle == y.Cycle && y.Round == x.Round+1 && y.Round <= item.MaxRound && y.Amount >= 1 && y.Amount <= api.MaxAmount
	case x.State == item.Agreed && y.State == item.Settled:
		return alike && y.Cycle >= 1 && y.Cycle <= item.MaxCycle
	}
	return false
}

// P23.2: what one item may do: all kinds of items behind each other.
func TestStepOfOne(t *testing.T) {
	counts := map[api.Errno]int{}
	list := variants(1)
	for _, x := range list {
		for _, y := range list {
			want := api.ErrState
			if x == y || comesOn(x, y) {
				want = api.OK
			}
			if e := abstract.Step(abstract.View{x}, abstract.View{y}); e != want {
				t.Fatalf("from %+v to %+v: %v, want %v", x, y, e, want)
			}
			counts[want]++
		}
	}
	if counts[api.OK] < len(list)+500 {
		t.Errorf("%v", counts)
	}
}

// P23.2: what is new has to be proposed, in the round 0; what isn't there any more is told.
func TestStepOfNew(t *testing.T) {
	for _, x := range variants(2) {
		want := api.ErrState
		if x.State == item.Proposed && x.Round == 0 {
			want = api.OK
		}
		ahead, behind := x, x
		ahead.Number, behind.Number = 1, 3
		for _, v := range []abstract.View{nil, {ahead}, {behind}, {ahead, behind}} {
			w := slices.Clone(v)
			i, _ := slices.BinarySearchFunc(v, x.ID, func(x api.Item, id api.ID) int { return book.Compare(x.ID, id) })
			w = slices.Insert(w, i, x)
			if e := abstract.Step(v, w); e != want {
				t.Errorf("from %+v to %+v: %v, want %v", v, w, e, want)
			}
			if e := abstract.Step(w, v); e != api.ErrMissing && e != api.ErrState {
				t.Errorf("from %+v to %+v: %v", w, v, e)
			}
			if e := abstract.Step(v, v); e != api.OK {
				t.Errorf("%+v stays: %v", v, e)
			}
		}
	}
	x := sold(70, 0, item.Proposed, 0)
	y := x
	y.Number = 2
	if e := abstract.Step(abstract.View{x}, abstract.View{y}); e != api.ErrMissing && e != api.ErrState {
		t.Errorf("another one in its place: %v", e)
	}
}

// change is something that happens to an item in a view; cycle is what it is settled by, if it is.
type change struct {
	from, to api.Item // without a state: there is none
	cycle    int
}

// changes are all that may happen to an item, and that it stays.
func changes(number int) []change {
	of := func(round, itsState, cycle int) api.Item {
		x := sold(70, round, itsState, cycle)
		x.Number = number
		return x
	}
	none := api.Item{}
	return []change{
		{none, none, 0},
		{of(0, item.Agreed, 0), of(0, item.Agreed, 0), 0},
		{of(0, item.Settled, 3), of(0, item.Settled, 3), 0},
		{none, of(0, item.Proposed, 0), 0},
		{of(1, item.Proposed, 0), of(1, item.Disputed, 0), 0},
		{of(1, item.Proposed, 0), of(1, item.Agreed, 0), 0},
		{of(1, item.Disputed, 0), of(1, item.Cancelled, 0), 0},
		{of(1, item.Disputed, 0), of(2, item.Proposed, 0), 0},
		{of(1, item.Agreed, 0), of(1, item.Settled, 3), 3},
		{of(1, item.Agreed, 0), of(1, item.Settled, 4), 4},
	}
}

// P23.2: more than one step isn't one: of three items each one may stay, or do all that one may do.
func TestStepsOfMany(t *testing.T) {
	counts := map[api.Errno]int{}
	for _, a := range changes(1) {
		for _, b := range changes(2) {
			for _, c := range changes(3) {
				var v, w abstract.View
				steps, cycles := 0, map[int]int{}
				for _, x := range []change{a, b, c} {
					if x.from.State != 0 {
						v = append(v, x.from)
					}
					if x.to.State != 0 {
						w = append(w, x.to)
					}
					if x.cycle != 0 {
						cycles[x.cycle]++
					} else if x.from != x.to {
						steps++
					}
				}
				want := api.OK
				if steps+len(cycles) > 1 {
					want = api.ErrState
				}
				if e := abstract.Step(v, w); e != want {
					t.Fatalf("from %+v to %+v: %v, want %v", v, w, e, want)
				}
				counts[want]++
			}
		}
	}
	if counts[api.OK] < 90 || counts[api.ErrState] < 90 {
		t.Errorf("%v", counts)
	}
}

// P23.2: something that isn't right is told of, too, where one of v isn't in w; and a step doesn't make up for it.
func TestStepOfMissing(t *testing.T) {
	x, y := sold(70, 0, item.Agreed, 0), sold(70, 0, item.Agreed, 0)
	y.Number = 2
	for _, z := range variants(1) {
		if e := abstract.Step(abstract.View{x, y}, abstract.View{z}); e != api.ErrMissing && e != api.ErrState {
			t.Errorf("to %+v: %v", z, e)
		}
	}
}

// P23.3: an entity is behind a view, item by item, as the chapter's words tell.
func TestBehindOfOne(t *testing.T) {
	s, e := state.New(1, 3, 5)
	if e != api.OK {
		t.Fatal(e)
	}
	counts := map[bool]int{}
	for _, x := range variants(1) {
		b, e := s.Desk.Book.Put(x)
		if e != api.OK {
			continue
		}
		at := s
		at.Desk.Book = b
		for _, y := range variants(1) {
			want := x.Buyer == y.Buyer && x.Currency == y.Currency && item.Rank(x) <= item.Rank(y)
			if x.State == item.Agreed || x.State == item.Settled {
				want = want && x.Amount == y.Amount
			}
			if got := abstract.Behind(at, abstract.View{y}); got != want {
				t.Fatalf("%+v behind %+v: %v, want %v", x, y, got, want)
			}
			counts[want]++
		}
	}
	if counts[true] < 1000 || counts[false] < 1000 {
		t.Errorf("%v", counts)
	}
}

// P23.3: each item counts, of those that it sells and of those that it buys; what is in the view alone doesn't.
func TestBehindOfMany(t *testing.T) {
	s, e := state.New(1, 3, 5)
	if e != api.OK {
		t.Fatal(e)
	}
	var v abstract.View
	for _, id := range []api.ID{name(0, 1), name(0, 2), name(1, 1), name(1, 4), name(2, 3)} {
		x := api.Item{ID: id, Buyer: 1, Amount: 70, State: item.Agreed}
		if id.Seller == 1 {
			x.Buyer = 0
		}
		next, e := s.Desk.Book.Put(x)
		if e != api.OK {
			t.Fatal(e)
		}
		s.Desk.Book = next
		v = append(v, x)
	}
	if !abstract.Behind(s, v) {
		t.Error("what is the same isn't behind")
	}
	for i := range v {
		if abstract.Behind(s, slices.Delete(slices.Clone(v), i, i+1)) {
			t.Errorf("%+v is missing", v[i])
		}
		w := slices.Clone(v)
		w[i].State = item.Proposed
		if abstract.Behind(s, w) {
			t.Errorf("%+v is behind %+v", w[i], v[i])
		}
		w[i].State = item.Settled
		if !abstract.Behind(s, w) {
			t.Errorf("%+v is ahead of %+v", v[i], w[i])
		}
	}
	more := append(slices.Clone(v), api.Item{ID: name(2, 9), Buyer: 1, Amount: 5, State: item.Settled, Cycle: 1})
	if !abstract.Behind(s, more) {
		t.Error("one more")
	}
	for _, n := range []int{0, 3} {
		s, _ := state.New(n, 3, 5)
		if !abstract.Behind(s, nil) || !abstract.Behind(s, v) {
			t.Errorf("%d, which has nothing, isn't behind", n)
		}
	}
}

// wild are states and views that can't be.
func wild() ([]state.State, []abstract.View) {
	lost := api.Item{Buyer: math.MinInt, State: item.Agreed}
	odd := api.Item{ID: name(math.MinInt, math.MaxInt), Buyer: math.MaxInt, Currency: -1, Amount: math.MinInt64, Round: math.MinInt, State: math.MaxInt, Cycle: -1}
	views := []abstract.View{nil, {lost}, {odd}, {odd, odd}, {{}, odd}, {sold(70, 0, item.Agreed, 0), odd, {}}}
	states := []state.State{{}, {Me: -1, N: math.MinInt}, {Me: math.MaxInt, N: 3}}
	for _, v := range views {
		s := state.State{Me: math.MinInt, N: 2}
		s.Desk.Book.Items = v
		s.Parts.List = []vote.Part{{Cycle: -1, State: -1}}
		s.Chief.Runs = []chief.Run{{State: chief.Committed, Lines: []api.Line{{Buyer: -1}}}, {State: -3}}
		states = append(states, s)
		s.Me = 0
		states = append(states, s)
	}
	return states, views
}

// P1: no call panics, whatever it is given.
func TestWild(t *testing.T) {
	states, views := wild()
	abstract.Of([]state.State{})
	for _, s := range states {
		abstract.Of([]state.State{s})
		for _, u := range states {
			abstract.Of([]state.State{s, u})
			abstract.Of([]state.State{s, u, s})
		}
		for _, v := range views {
			abstract.Behind(s, v)
		}
	}
	for _, v := range views {
		for _, w := range views {
			abstract.Step(v, w)
			for _, x := range w {
				v.Get(x.ID)
			}
		}
	}
}

// P2: what is handed in stays, and what is answered is memory of its own, and hangs on the arguments alone.
func TestMemory(t *testing.T) {
	f := cycled(t)
	f.tells(t, 1, 2)
	was := fmt.Sprintf("%+v", f)
	v, w := abstract.Of(f), abstract.Of(f)
	want := slices.Clone(v)
	if len(v) != 1 || !slices.Equal(v, w) {
		t.Fatalf("%+v, %+v", v, w)
	}
	abstract.Step(v, w)
	abstract.Behind(f[0], v)
	x, _ := v.Get(v[0].ID)
	x.Amount++
	if !slices.Equal(v, want) || !slices.Equal(w, want) {
		t.Errorf("%+v, %+v; want %+v", v, w, want)
	}
	v[0].Amount++
	for i := range v[:cap(v)] {
		v[:cap(v)][i] = api.Item{}
	}
	if got := fmt.Sprintf("%+v", f); got != was {
		t.Errorf("the states are %s, were %s", got, was)
	}
	if again := abstract.Of(f); !slices.Equal(again, want) || !slices.Equal(w, want) {
		t.Errorf("%+v, %+v; want %+v", again, w, want)
	}
}
