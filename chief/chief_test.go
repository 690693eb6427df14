package chief_test

import (
	"math"
	"reflect"
	"slices"
	"testing"

	"contra/api"
	"contra/chief"
	"contra/match"
	"contra/msg"
)

// group is how many entities most tests are about.
const group = 3

// event is something that is said, and by whom.
type event struct {
	from int
	msg  api.Msg
}

// line is an item's part in a cycle.
func line(seller, number, buyer int, amount int64) api.Line {
	return api.Line{ID: api.ID{Seller: seller, Number: number}, Buyer: buyer, Amount: amount}
}

// start, due, offer, answer and query are what the coordinator hears; what the kind hasn't is zero.
func start(currency int) event {
	return event{match.Client, api.Msg{Kind: msg.Start, Currency: currency}}
}

func due(cycle int) event { return event{match.Client, api.Msg{Kind: msg.Due, Cycle: cycle}} }

func offer(from, cycle int, lines ...api.Line) event {
	return event{from, api.Msg{Kind: msg.Offer, Cycle: cycle, Lines: lines}}
}

func answer(from, cycle int, yes bool) event {
	return event{from, api.Msg{Kind: msg.Vote, Cycle: cycle, Yes: yes}}
}

func query(from, cycle int) event { return event{from, api.Msg{Kind: msg.Query, Cycle: cycle}} }

// odd is the same with all else that the message could have, but its own.
func (x event) odd() event {
	m := &x.msg
	m.ID, m.Buyer, m.Round, m.Amount, m.Nets = api.ID{Seller: -7, Number: 77}, 7, -1, -5, []int64{4}
	if m.Kind != msg.Start {
		m.Currency = -9
	} else {
		m.Cycle = -3
	}
	if m.Kind != msg.Vote {
		m.Yes = true
	}
	if m.Kind != msg.Offer {
		m.Lines = []api.Line{{Buyer: 9}}
	}
	return x
}

// ask, prepare and decide are what the coordinator says.
func ask(cycle, currency int) api.Msg {
	return api.Msg{Kind: msg.Ask, Cycle: cycle, Currency: currency}
}

func prepare(cycle int, lines []api.Line, nets ...int64) api.Msg {
	return api.Msg{Kind: msg.Prepare, Cycle: cycle, Lines: lines, Nets: nets}
}

func decide(cycle int, yes bool) api.Msg {
	return api.Msg{Kind: msg.Decide, Cycle: cycle, Yes: yes}
}

// toAll is what is said to so many, from 0 on.
func toAll(n int, m api.Msg) []match.Said {
	var list []match.Said
	for to := range n {
		list = append(list, match.Said{To: to, Msg: m})
	}
	return list
}

// offered and voted are what an entity has said; nothing is what it has at first.
func offered(lines ...api.Line) chief.Heard { return chief.Heard{Offered: true, Lines: lines} }

func voted(lines ...api.Line) chief.Heard {
	return chief.Heard{Offered: true, Voted: true, Lines: lines}
}

var nothing chief.Heard

// copiedRun is a cycle in memory of its own, no list being nil.
func copiedRun(x chief.Run) chief.Run {
	x.From, x.Lines, x.Nets = append([]chief.Heard{}, x.From...), append([]api.Line{}, x.Lines...), append([]int64{}, x.Nets...)
	for i, h := range x.From {
		x.From[i].Lines = append([]api.Line{}, h.Lines...)
	}
	return x
}

// copied is the same of all cycles.
func copied(c chief.Chief) chief.Chief {
	list := []chief.Run{}
	for _, x := range c.Runs {
		list = append(list, copiedRun(x))
	}
	c.Runs = list
	return c
}

// same says that all cycles are just as they should be.
func same(t *testing.T, call string, c, want chief.Chief) {
	t.Helper()
	if a, b := copied(c), copied(want); !reflect.DeepEqual(a, b) {
		t.Errorf("%s: %+v, want %+v", call, a, b)
	}
}

// alike says whether two lists of what is said are the same.
func alike(a, b []match.Said) bool {
	return slices.EqualFunc(a, b, func(x, y match.Said) bool {
		if !slices.Equal(x.Msg.Lines, y.Msg.Lines) || !slices.Equal(x.Msg.Nets, y.Msg.Nets) {
			return false
		}
		x.Msg.Lines, x.Msg.Nets, y.Msg.Lines, y.Msg.Nets = nil, nil, nil, nil
		return reflect.DeepEqual(x, y)
	})
}

// does says what Do answers where it is taken: what is behind it, and what is said.
func does(t *testing.T, c chief.Chief, x event, want chief.Chief, said ...match.Said) chief.Chief {
	t.Helper()
	before := copied(c)
	for _, x := range []event{x.odd(), x} {
		next, list, e := c.Do(x.msg, x.from)
		if e != api.OK {
			t.Errorf("Do %+v: %v", x, e)
		}
		same(t, "behind Do", next, want)
		if !alike(list, said) {
			t.Errorf("Do %+v says %+v, want %+v", x, list, said)
		}
		same(t, "what Do was called on", c, before)
	}
	next, _, _ := c.Do(x.msg, x.from)
	return next
}

// refuses says with which error Do answers, and that nothing is otherwise then.
func refuses(t *testing.T, c chief.Chief, x event, want api.Errno) {
	t.Helper()
	before := copied(c)
	next, list, e := c.Do(x.msg, x.from)
	if e != want || len(list) != 0 {
		t.Errorf("Do %+v: says %+v, %v; want %v", x, list, e, want)
	}
	same(t, "beside an error of Do", next, before)
	same(t, "behind a refused Do", c, before)
}

// told is what is behind things that have to be taken.
func told(t *testing.T, c chief.Chief, list ...event) chief.Chief {
	t.Helper()
	for _, x := range list {
		next, _, e := c.Do(x.msg, x.from)
		if e != api.OK {
			t.Fatalf("Do %+v: %v", x, e)
		}
		c = next
	}
	return c
}

// with is the same with the n-th cycle otherwise, or one more.
func with(c chief.Chief, n int, x chief.Run) chief.Chief {
	c.Runs = append(slices.Clone(c.Runs), make([]chief.Run, max(0, n-len(c.Runs)))...)
	c.Runs[n-1] = x
	return c
}

// wild are numbers inside and outside what is taken.
func wild() []int {
	return []int{math.MinInt, math.MinInt + 1, -2, -1, 0, 1, 2, 3, 4, 5, 6, 7, 8, 9, 10, 1 << 20, 1<<20 + 1, 1 << 32, math.MaxInt - 1, math.MaxInt}
}

// The items of 0, 1 and 2, which the cycles are about.
var (
	a = line(0, 3, 1, 70)
	b = line(1, 1, 0, 30)
	d = line(2, 9, 1, 500)
)

// The cycles of all, the currency of each being its number.
const (
	asking = 1 + iota
	preparing
	committed
	undoneByVote
	undoneByDue
	late
	cycles = late
)

// all has a cycle in each state; 2 hasn't offered a thing.
func all(t *testing.T) chief.Chief {
	t.Helper()
	c := chief.Chief{N: group}
	for n := 1; n <= cycles; n++ {
		c = told(t, c, start(n), offer(2, n), offer(0, n, a, b))
		if n == asking || n == undoneByDue {
			continue
		}
		c = told(t, c, offer(1, n, a, b, d), answer(1, n, true))
		switch n {
		case committed:
			c = told(t, c, answer(0, n, true), answer(2, n, true))
		case undoneByVote:
			c = told(t, c, answer(2, n, false))
		}
	}
	return told(t, c, due(undoneByDue), due(late))
}

// expected is what Get has to tell of a cycle of all.
func expected(n int) chief.Run {
	x := chief.Run{Currency: n, State: chief.Aborted, From: []chief.Heard{offered(a, b), voted(a, b, d), offered()}}
	x.Lines, x.Nets = []api.Line{a, b}, []int64{40, -40, 0}
	switch n {
	case preparing:
		x.State = chief.Preparing
	case committed:
		x.State, x.From = chief.Committed, []chief.Heard{voted(a, b), voted(a, b, d), voted()}
	case undoneByVote:
		x.From[2] = voted()
	case asking, undoneByDue:
		x.From[1], x.Lines, x.Nets = nothing, nil, nil
	}
	if n == asking {
		x.State = chief.Asking
	}
	return x
}

// The states are what the chapter tells.
func TestStates(t *testing.T) {
	if list := []int{chief.Asking, chief.Preparing, chief.Committed, chief.Aborted}; !slices.Equal(list, []int{1, 2, 3, 4}) {
		t.Errorf("%v", list)
	}
}

// P18.1: of all that can become of a cycle.
func TestGet(t *testing.T) {
	c := all(t)
	for _, n := range wild() {
		x, found := c.Get(n)
		if n < 1 || n > cycles {
			if found || !reflect.DeepEqual(x, chief.Run{}) {
				t.Errorf("Get %d: %+v, %v", n, x, found)
			}
		} else if want := copiedRun(expected(n)); !found || !reflect.DeepEqual(copiedRun(x), want) {
			t.Errorf("Get %d: %+v, %v; want %+v", n, x, found, want)
		}
		if x, found := (chief.Chief{N: group}).Get(n); found || !reflect.DeepEqual(x, chief.Run{}) {
			t.Errorf("Get %d of none: %+v, %v", n, x, found)
		}
	}
}

// P18.1
func TestWaits(t *testing.T) {
	if list := (chief.Chief{N: group}).Waits(); len(list) != 0 {
		t.Errorf("none: %v", list)
	}
	c := all(t)
	if list := c.Waits(); !slices.Equal(list, []int{asking, preparing}) {
		t.Errorf("all: %v", list)
	}
	c = told(t, c, start(committed), start(0))
	if list := c.Waits(); !slices.Equal(list, []int{asking, preparing, cycles + 1, cycles + 2}) {
		t.Errorf("more: %v", list)
	}
	c = told(t, c, due(cycles+1), answer(0, preparing, true), answer(2, preparing, true))
	if list := c.Waits(); !slices.Equal(list, []int{asking, cycles + 2}) {
		t.Errorf("two decided: %v", list)
	}
	c = told(t, c, due(asking), due(cycles+2))
	if list := c.Waits(); len(list) != 0 {
		t.Errorf("all decided: %v", list)
	}
}

// P18.1: who says what; that goes ahead of who it is, and that ahead of what there is.
func TestWhoSaysWhat(t *testing.T) {
	c := all(t)
	for kind := -1; kind <= msg.Due+1; kind++ {
		clients := kind == msg.Start || kind == msg.Due
		entities := kind == msg.Offer || kind == msg.Vote || kind == msg.Query
		for _, from := range wild() {
			for _, n := range wild() {
				x := event{from, api.Msg{Kind: kind, Cycle: n, Currency: n, Lines: []api.Line{d, a}}}
				switch {
				case from == match.Client && !clients || from != match.Client && !entities:
					refuses(t, c, x, api.ErrKind)
				case from != match.Client && (from < 0 || from >= group):
					refuses(t, c, x, api.ErrOther)
				case kind != msg.Start && (n < 1 || n > cycles):
					refuses(t, c, x, api.ErrMissing)
				default:
					if _, _, e := c.Do(x.msg, from); e == api.ErrKind || e == api.ErrMissing || e == api.ErrOther && kind != msg.Offer {
						t.Errorf("Do %+v: %v", x, e)
					}
				}
			}
		}
	}
	for _, kind := range []int{math.MinInt, math.MaxInt, msg.Start + 1<<32, msg.Offer - 1<<32} {
		refuses(t, c, event{match.Client, api.Msg{Kind: kind, Cycle: 1}}, api.ErrKind)
		refuses(t, c, event{0, api.Msg{Kind: kind, Cycle: 1}}, api.ErrKind)
	}
}

// P18.1, P18.2: among as many as there are, all are asked, and no others are heard.
func TestAllAreAsManyAsThereAre(t *testing.T) {
	for n := 1; n <= api.MaxEntity; n++ {
		c := does(t, chief.Chief{N: n}, start(4), chief.Chief{N: n, Runs: []chief.Run{{Currency: 4, State: chief.Asking, From: make([]chief.Heard, n)}}}, toAll(n, ask(1, 4))...)
		run := chief.Run{Currency: 4, State: chief.Asking, From: make([]chief.Heard, n)}
		for from := n - 1; from >= 0; from-- {
			refuses(t, c, offer(n, 1), api.ErrOther)
			run.From[from] = offered()
			if from > 0 {
				c = does(t, c, offer(from, 1), with(c, 1, run))
			}
		}
		run.State, run.Nets = chief.Preparing, make([]int64, n)
		c = does(t, c, offer(0, 1), with(c, 1, run), toAll(n, prepare(1, nil, run.Nets...))...)
		for from := range n {
			refuses(t, c, answer(n, 1, false), api.ErrOther)
			run.From[from] = voted()
			if from < n-1 {
				c = does(t, c, answer(from, 1, true), with(c, 1, run))
			}
		}
		run.State = chief.Committed
		c = does(t, c, answer(n-1, 1, true), with(c, 1, run), toAll(n, decide(1, true))...)
		for from := range n {
			does(t, c, query(from, 1), c, match.Said{To: from, Msg: decide(1, true)})
		}
		refuses(t, c, query(n, 1), api.ErrOther)
	}
}

// P18.2
func TestStart(t *testing.T) {
	c := chief.Chief{N: group}
	number := 0
	for round := range 3 {
		for currency := range 8 {
			number++
			c = does(t, c, start(currency), with(c, number, chief.Run{Currency: currency, State: chief.Asking, From: make([]chief.Heard, group)}), toAll(group, ask(number, currency))...)
			refuses(t, c, start(currency), api.ErrState)
		}
		for currency := range 8 { // the next ones may begin
			n := 8*round + currency + 1
			switch currency % 3 {
			case 0:
				c = told(t, c, due(n))
			case 1:
				c = told(t, c, offer(0, n), offer(1, n), offer(2, n), answer(0, n, false))
			case 2:
				c = told(t, c, offer(0, n), offer(1, n), offer(2, n), answer(0, n, true), answer(1, n, true), answer(2, n, true))
			}
		}
	}
}

// P18.2
func TestStartRefuses(t *testing.T) {
	c := all(t)
	for _, c := range []chief.Chief{{N: group}, c} {
		for _, currency := range wild() {
			if currency < 0 || currency > 7 {
				refuses(t, c, start(currency), api.ErrRange)
			}
		}
	}
	for currency := range 8 {
		if currency == asking || currency == preparing {
			refuses(t, c, start(currency), api.ErrState)
		} else {
			told(t, c, start(currency))
		}
	}
	c = told(t, c, start(7), due(cycles+1), start(7), start(committed)) // a later one of a currency counts, too
	refuses(t, c, start(7), api.ErrState)
	refuses(t, c, start(committed), api.ErrState)
	told(t, c, start(undoneByDue))
}

// P18.2: of as many cycles as there can be; here they are made by hand.
func TestStartOfTheLastCycle(t *testing.T) {
	const most = 1 << 20
	c := chief.Chief{N: 2, Runs: make([]chief.Run, most-1)}
	for i := range c.Runs {
		c.Runs[i].State = chief.Aborted
	}
	c, said, e := c.Do(start(5).msg, match.Client)
	if e != api.OK || len(c.Runs) != most || !alike(said, toAll(2, ask(most, 5))) {
		t.Fatalf("the last one: %d, %+v, %v", len(c.Runs), said, e)
	}
	refused := func(currency int, want api.Errno) {
		next, said, e := c.Do(start(currency).msg, match.Client)
		if e != want || len(said) != 0 || len(next.Runs) != most {
			t.Errorf("one more of %d: %d, %+v, %v; want %v", currency, len(next.Runs), said, e, want)
		}
	}
	refused(8, api.ErrRange) // ahead of the others
	refused(5, api.ErrState)
	refused(4, api.ErrFull)
	if list := c.Waits(); !slices.Equal(list, []int{most}) {
		t.Errorf("Waits: %v", list)
	}
	c, said, e = c.Do(due(most).msg, match.Client)
	if x, found := c.Get(most); e != api.OK || !found || x.State != chief.Aborted || !alike(said, toAll(2, decide(most, false))) {
		t.Errorf("Due: %+v, %v, %+v, %v", x, found, said, e)
	}
	refused(5, api.ErrFull)
}

// begun has a cycle, the second one, of the currency 4, of which nobody has offered a thing.
func begun(t *testing.T) chief.Chief {
	t.Helper()
	return told(t, chief.Chief{N: group}, start(0), start(4))
}

// run is that cycle in a state, with what is heard of each.
func run(state int, from ...chief.Heard) chief.Run {
	return chief.Run{Currency: 4, State: state, From: from}
}

// P18.2: in whatever order they come.
func TestOffer(t *testing.T) {
	lists := [][]api.Line{{a, b}, {a, b, d}, {d}}
	for _, order := range [][]int{{0, 1, 2}, {0, 2, 1}, {1, 0, 2}, {1, 2, 0}, {2, 0, 1}, {2, 1, 0}} {
		c := begun(t)
		x := run(chief.Asking, nothing, nothing, nothing)
		for i, from := range order {
			x.From[from] = offered(lists[from]...)
			if i < 2 {
				c = does(t, c, offer(from, 2, lists[from]...), with(c, 2, x))
				refuses(t, c, offer(from, 2, lists[from]...), api.ErrTwice)
				refuses(t, c, offer(from, 2), api.ErrTwice)
				continue
			}
			x.State, x.Lines, x.Nets = chief.Preparing, []api.Line{a, b, d}, []int64{40, -540, 500}
			c = does(t, c, offer(from, 2, lists[from]...), with(c, 2, x), toAll(group, prepare(2, x.Lines, x.Nets...))...)
		}
	}
}

// P18.2: what both have offered is in, the very same, in the order of names.
func TestOfferOfWhatOneHas(t *testing.T) {
	more, other := a, a
	more.Amount++
	other.Buyer = 2
	for _, x := range []struct {
		of0, of1, of2, lines []api.Line
		nets                 []int64
	}{
		{nil, nil, nil, nil, []int64{0, 0, 0}},
		{[]api.Line{a}, nil, nil, nil, []int64{0, 0, 0}},
		{nil, []api.Line{a, b, d}, nil, nil, []int64{0, 0, 0}},
		{[]api.Line{a}, []api.Line{a}, nil, []api.Line{a}, []int64{70, -70, 0}},
		{[]api.Line{b}, []api.Line{b}, nil, []api.Line{b}, []int64{-30, 30, 0}},
		{[]api.Line{more}, []api.Line{a, d}, []api.Line{d}, []api.Line{d}, []int64{0, -500, 500}},
		{[]api.Line{a, b}, []api.Line{more, b}, nil, []api.Line{b}, []int64{-30, 30, 0}},
		{[]api.Line{other}, []api.Line{a}, []api.Line{other}, []api.Line{other}, []int64{70, 0, -70}},
		{[]api.Line{a}, []api.Line{d}, []api.Line{other, d}, []api.Line{d}, []int64{0, -500, 500}},
		{[]api.Line{line(0, 1, 2, 1<<50), line(1, 1, 0, 1)}, []api.Line{line(1, 1<<20, 2, 9)}, []api.Line{line(0, 1, 2, 1<<50), line(1, 1<<20, 2, 9)}, []api.Line{line(0, 1, 2, 1<<50), line(1, 1<<20, 2, 9)}, []int64{1 << 50, 9, -1<<50 - 9}},
	} {
		c := told(t, begun(t), offer(0, 2, x.of0...), offer(2, 2, x.of2...))
		want := run(chief.Preparing, offered(x.of0...), offered(x.of1...), offered(x.of2...))
		want.Lines, want.Nets = x.lines, x.nets
		does(t, c, offer(1, 2, x.of1...), with(c, 2, want), toAll(group, prepare(2, x.lines, x.nets...))...)
	}
}

// P18.2: the errors, in their order.
func TestOfferRefuses(t *testing.T) {
	c := all(t)
	foreign, outside, behind := []api.Line{d}, []api.Line{line(0, 1, 3, 5)}, []api.Line{b, a}
	for n := 1; n <= cycles; n++ { // also of what isn't theirs, or doesn't fit
		for from := range group {
			for _, lines := range [][]api.Line{nil, foreign, outside, behind} {
				want := api.ErrTwice
				if n != asking {
					want = api.ErrState
				} else if from == 1 {
					continue
				}
				refuses(t, c, offer(from, n, lines...), want)
			}
		}
	}
	c = begun(t)
	for _, x := range []struct {
		want  api.Errno
		lines []api.Line
	}{
		{api.ErrOther, foreign},
		{api.ErrOther, []api.Line{a, b, d}},                            // one is enough
		{api.ErrOther, []api.Line{d, a}},                               // ahead of the order
		{api.ErrOther, []api.Line{line(0, 1, 0, 0), line(1, 1, 2, 0)}}, // and of what doesn't fit
		{api.ErrOther, []api.Line{line(-1, 1, 3, 5)}},                  // of none that there are
		{api.ErrRange, []api.Line{line(0, 1, 3, 5)}},                   // the coordinator buys nothing
		{api.ErrRange, []api.Line{line(0, 1, 0, 5)}},                   // nor does anybody of itself
		{api.ErrRange, []api.Line{line(3, 1, 0, 5)}},                   // or sells
		{api.ErrRange, []api.Line{line(0, 1, -1, 5)}},
		{api.ErrRange, []api.Line{line(-1, 1, 0, 5)}},
		{api.ErrRange, []api.Line{line(0, 1, 7, 5)}}, // among eight it would fit
		{api.ErrRange, []api.Line{line(0, 0, 1, 5)}},
		{api.ErrRange, []api.Line{line(0, 1<<20+1, 1, 5)}},
		{api.ErrRange, []api.Line{line(0, 1, 1, 0)}},
		{api.ErrRange, []api.Line{line(0, 1, 1, -5)}},
		{api.ErrRange, []api.Line{line(0, 1, 1, 1<<50+1)}},
		{api.ErrRange, []api.Line{a, line(0, 4, 1, 0)}},
		{api.ErrForm, []api.Line{b, a}},
		{api.ErrForm, []api.Line{a, a}},
		{api.ErrForm, []api.Line{a, line(0, 3, 2, 5)}},
		{api.ErrForm, []api.Line{a, line(0, 2, 1, 5), line(0, 5, 1, 0)}}, // line by line
		{api.ErrRange, []api.Line{line(0, 3, 1, 0), line(0, 2, 1, 5), a, b, a}},
	} {
		refuses(t, c, offer(0, 2, x.lines...), x.want)
	}
	told(t, c, offer(0, 2, line(0, 1, 1, 1), line(0, 1<<20, 2, 1<<50), line(1, 1, 0, 1))) // the edges of what fits
}

// P18.2: an offer counts for its cycle alone.
func TestOfferOfOneOfTheCycles(t *testing.T) {
	c := told(t, begun(t), offer(0, 2, a), offer(0, 1, b), offer(1, 2, a), offer(1, 1, b))
	x := run(chief.Preparing, offered(a), offered(a), offered())
	x.Lines, x.Nets = []api.Line{a}, []int64{70, -70, 0}
	c = does(t, c, offer(2, 2), with(c, 2, x), toAll(group, prepare(2, x.Lines, x.Nets...))...)
	first := chief.Run{State: chief.Preparing, From: []chief.Heard{offered(b), offered(b), offered()}, Lines: []api.Line{b}, Nets: []int64{-30, 30, 0}}
	does(t, c, offer(2, 1), with(c, 1, first), toAll(group, prepare(1, first.Lines, first.Nets...))...)
}

// many are so many lines of a seller and a buyer.
func many(seller, buyer, count int, amount int64) []api.Line {
	var list []api.Line
	for i := range count {
		list = append(list, line(seller, i+1, buyer, amount))
	}
	return list
}

// P18.2: as many as can be told, and more.
func TestOfferOfMany(t *testing.T) {
	for _, x := range []struct {
		ones, twos int // items that 0 sells to 1, and 1 to 2
		fits       bool
	}{{1024, 0, true}, {1000, 24, true}, {0, 1024, true}, {1025, 0, false}, {512, 513, false}, {1024, 1024, false}, {0, 3000, false}} {
		ones, twos := many(0, 1, x.ones, 2), many(1, 2, x.twos, 3)
		both := slices.Concat(ones, twos)
		c := told(t, begun(t), offer(0, 2, ones...), offer(1, 2, both...))
		want := run(chief.Aborted, offered(ones...), offered(both...), offered(twos...))
		want.Lines = both
		want.Nets = []int64{int64(2 * x.ones), int64(3*x.twos - 2*x.ones), int64(-3 * x.twos)}
		said := toAll(group, decide(2, false))
		if x.fits {
			want.State, said = chief.Preparing, toAll(group, prepare(2, both, want.Nets...))
		}
		does(t, c, offer(2, 2, twos...), with(c, 2, want), said...)
	}
	// What is offered by one alone doesn't count.
	c := told(t, begun(t), offer(0, 2, many(0, 1, 5000, 1)...), offer(2, 2, many(2, 1, 5000, 1)...))
	c, said, e := c.Do(offer(1, 2, many(0, 1, 1000, 1)...).msg, 1)
	if x, _ := c.Get(2); e != api.OK || x.State != chief.Preparing || len(x.Lines) != 1000 || len(said) != 3 || len(said[0].Msg.Lines) != 1000 {
		t.Errorf("of 5000, by one alone: %d, %d, %d, %v", x.State, len(x.Lines), len(said), e)
	}
}

// P18.2: nets that don't fit into a number end the cycle; nobody is asked.
func TestOfferOfNetsThatDoNotFit(t *testing.T) {
	list := many(0, 1, 1<<13+1, 1<<50)
	c := told(t, begun(t), offer(0, 2, list...), offer(1, 2, list...))
	want := run(chief.Aborted, offered(list...), offered(list...), offered())
	want.Lines = list
	c = does(t, c, offer(2, 2), with(c, 2, want), toAll(group, decide(2, false))...)
	does(t, c, query(1, 2), c, match.Said{To: 1, Msg: decide(2, false)})
	refuses(t, c, answer(1, 2, true), api.ErrState)
}

// ready has the second cycle, all having offered, of 0's and 1's items.
func ready(t *testing.T) (chief.Chief, chief.Run) {
	t.Helper()
	x := run(chief.Preparing, offered(a, b), offered(a, b), offered())
	x.Lines, x.Nets = []api.Line{a, b}, []int64{40, -40, 0}
	return told(t, begun(t), offer(2, 2), offer(1, 2, a, b), offer(0, 2, a, b)), x
}

// P18.3: when all say yes, in whatever order.
func TestVote(t *testing.T) {
	for _, order := range [][]int{{0, 1, 2}, {0, 2, 1}, {1, 0, 2}, {1, 2, 0}, {2, 0, 1}, {2, 1, 0}} {
		c, x := ready(t)
		for i, from := range order {
			x.From[from].Voted = true
			if i < 2 {
				c = does(t, c, answer(from, 2, true), with(c, 2, x))
				refuses(t, c, answer(from, 2, true), api.ErrTwice)
				refuses(t, c, answer(from, 2, false), api.ErrTwice)
				continue
			}
			x.State = chief.Committed
			c = does(t, c, answer(from, 2, true), with(c, 2, x), toAll(group, decide(2, true))...)
		}
		for from := range group {
			refuses(t, c, answer(from, 2, true), api.ErrState)
			refuses(t, c, answer(from, 2, false), api.ErrState)
		}
		if list := c.Waits(); !slices.Equal(list, []int{1}) {
			t.Errorf("Waits: %v", list)
		}
	}
}

// P18.3: one no is enough, whenever it comes.
func TestVoteNo(t *testing.T) {
	for _, order := range [][]int{{0, 1, 2}, {1, 2, 0}, {2, 1, 0}} {
		for ahead := range group {
			c, x := ready(t)
			for _, from := range order[:ahead] {
				c = told(t, c, answer(from, 2, true))
				x.From[from].Voted = true
			}
			x.State, x.From[order[ahead]].Voted = chief.Aborted, true
			c = does(t, c, answer(order[ahead], 2, false), with(c, 2, x), toAll(group, decide(2, false))...)
			for from := range group {
				refuses(t, c, answer(from, 2, true), api.ErrState)
				refuses(t, c, answer(from, 2, false), api.ErrState)
			}
		}
	}
}

// P18.3
func TestVoteRefuses(t *testing.T) {
	c := all(t)
	for n := 1; n <= cycles; n++ {
		for from := range group {
			for _, yes := range []bool{true, false} {
				switch {
				case n != preparing: // though it has voted
					refuses(t, c, answer(from, n, yes), api.ErrState)
				case from == 1:
					refuses(t, c, answer(from, n, yes), api.ErrTwice)
				default:
					told(t, c, answer(from, n, yes))
				}
			}
		}
	}
	refuses(t, told(t, begun(t), offer(0, 2), offer(1, 2)), answer(0, 2, false), api.ErrState) // not all have offered
}

// P18.4
func TestDue(t *testing.T) {
	c := all(t)
	for n := 1; n <= cycles; n++ {
		if n != asking && n != preparing {
			refuses(t, c, due(n), api.ErrState)
			continue
		}
		x := expected(n)
		x.State = chief.Aborted
		next := does(t, c, due(n), with(c, n, x), toAll(group, decide(n, false))...)
		refuses(t, next, due(n), api.ErrState)
		told(t, next, start(n))
	}
	c = begun(t) // also where nobody has said a thing
	does(t, c, due(2), with(c, 2, run(chief.Aborted, nothing, nothing, nothing)), toAll(group, decide(2, false))...)
	c, x := ready(t)
	x.State = chief.Aborted
	c = does(t, c, due(2), with(c, 2, x), toAll(group, decide(2, false))...)
	refuses(t, c, offer(0, 2), api.ErrState) // what comes late counts for nothing
	refuses(t, c, answer(0, 2, true), api.ErrState)
}

// P18.4
func TestQuery(t *testing.T) {
	c := all(t)
	for n := 1; n <= cycles; n++ {
		for from := range group {
			if n == asking || n == preparing {
				refuses(t, c, query(from, n), api.ErrState)
			} else {
				does(t, c, query(from, n), c, match.Said{To: from, Msg: decide(n, n == committed)})
			}
		}
	}
}

// P18.1 to P18.4: the chapter's example.
func TestTheExample(t *testing.T) {
	x := line(0, 1, 1, 70)
	c := told(t, chief.Chief{N: 2}, start(0), offer(0, 1, x), offer(1, 1, x))
	c = told(t, c, answer(0, 1, true))
	c, said, e := c.Do(answer(1, 1, true).msg, 1)
	r, found := c.Get(1)
	if e != api.OK || !alike(said, toAll(2, decide(1, true))) {
		t.Errorf("both say yes: %+v, %v", said, e)
	}
	if !found || r.State != chief.Committed || !slices.Equal(r.Nets, []int64{70, -70}) || !slices.Equal(r.Lines, []api.Line{x}) {
		t.Errorf("it is committed: %+v", r)
	}
}

// P1: also of what was made by hand, of which nothing else is promised.
func TestEveryCallEndsAtAllArguments(t *testing.T) {
	list := []chief.Chief{{}, all(t), told(t, all(t), start(7))}
	for _, n := range wild() {
		list = append(list, chief.Chief{N: n}, chief.Chief{N: n, Runs: all(t).Runs}, chief.Chief{N: n, Runs: make([]chief.Run, 3)})
		list = append(list, chief.Chief{N: n, Runs: []chief.Run{{State: chief.Asking}, {State: chief.Preparing, From: make([]chief.Heard, 1)}, {State: chief.Committed}, {State: n, Currency: n, Lines: []api.Line{a}}}})
	}
	outside := make([]api.Line, 3)
	huge := many(0, 1, 3000, math.MaxInt64)
	for _, c := range list {
		before := copied(c)
		for _, n := range wild() {
			c.Get(n)
			c.Waits()
			for kind := -1; kind <= msg.Due+1; kind++ {
				for _, from := range []int{n, 0, 1, 2, match.Client} {
					c.Do(api.Msg{Kind: kind, Cycle: n, Currency: n, Amount: math.MinInt64, Nets: make([]int64, 20)}, from)
					c.Do(api.Msg{Kind: kind, Cycle: n, Yes: true, Lines: []api.Line{line(from, n, n, int64(n))}}, from)
					c.Do(api.Msg{Kind: kind, Cycle: asking, Currency: n, Yes: true, Lines: outside}, from)
					c.Do(api.Msg{Kind: kind, Cycle: preparing, Lines: []api.Line{line(from, n, n, 5)}}, from)
				}
			}
		}
		for kind := -1; kind <= msg.Due+1; kind++ {
			c.Do(api.Msg{Kind: kind, Cycle: asking, Lines: huge}, 1)
		}
		same(t, "at the end", c, before)
	}
}

// P2: cycles stay as they are, whatever comes behind them, and in whatever spare room.
func TestCyclesStayAsTheyAre(t *testing.T) {
	c := all(t)
	c.Runs = slices.Grow(c.Runs, 20)
	for i := range c.Runs {
		c.Runs[i].From = slices.Grow(c.Runs[i].From, 20)
	}
	before := copied(c)
	x := expected(preparing)
	x.From[0].Voted = true
	one := told(t, c, answer(0, preparing, true))
	y := expected(asking)
	y.State, y.From[1], y.Nets = chief.Preparing, offered(), []int64{0, 0, 0}
	two := told(t, c, offer(1, asking))
	z := expected(asking)
	z.State = chief.Aborted
	three := told(t, c, due(asking))
	four := told(t, c, start(7))
	five := told(t, c, start(0))
	six := told(t, one, answer(2, preparing, false))
	seven := told(t, c, query(0, committed))
	fresh := func(currency int) chief.Run {
		return chief.Run{Currency: currency, State: chief.Asking, From: make([]chief.Heard, group)}
	}
	same(t, "behind all", c, before)
	same(t, "one", one, with(before, preparing, x))
	same(t, "two", two, with(before, asking, y))
	same(t, "three", three, with(before, asking, z))
	same(t, "four", four, with(before, cycles+1, fresh(7)))
	same(t, "five", five, with(before, cycles+1, fresh(0)))
	x.State, x.From[2] = chief.Aborted, voted()
	same(t, "six", six, with(before, preparing, x))
	same(t, "seven", seven, before)
}

// P2: what is handed in is neither changed nor kept.
func TestWhatIsHandedInIsNotKept(t *testing.T) {
	c := told(t, begun(t), offer(2, 2))
	rooms := [][]api.Line{{a, b, d}, {a, b, d}}
	for from, room := range rooms {
		c = told(t, c, offer(from, 2, room[:2]...))
		if !slices.Equal(room, []api.Line{a, b, d}) {
			t.Errorf("%d's is changed: %v", from, room)
		}
	}
	before := copied(c)
	for _, room := range rooms {
		clear(room)
	}
	same(t, "behind a change of what was handed in", c, before)
	if x, _ := c.Get(2); !slices.Equal(x.Lines, []api.Line{a, b}) {
		t.Errorf("%+v", x)
	}
}

// spoil changes a list, its spare room, too.
func spoil[T any](list []T) { clear(list[:cap(list)]) }

// P2, P18.1: what is answered is new memory, its spare room, too.
func TestWhatIsAnsweredIsNewMemory(t *testing.T) {
	c := told(t, begun(t), offer(2, 2), offer(1, 2, a, b))
	last := offer(0, 2, a, b)
	next, one, _ := c.Do(last.msg, 0)
	_, two, _ := c.Do(last.msg, 0)
	before := copied(next)
	want := toAll(group, prepare(2, []api.Line{a, b}, 40, -40, 0))
	for i := range one { // each of the one answer by itself
		if !alike(one[i:], want[i:]) {
			t.Errorf("what is said from %d on: %+v", i, one[i:])
		}
		spoil(one[i].Msg.Lines)
		spoil(one[i].Msg.Nets)
	}
	spoil(one)
	if !alike(two, want) {
		t.Errorf("two answers share memory: %+v", two)
	}
	same(t, "behind a change of what was said", next, before)
	c = all(t)
	before = copied(c)
	for range 2 {
		for n := 1; n <= cycles; n++ {
			x, _ := c.Get(n)
			if !reflect.DeepEqual(copiedRun(x), copiedRun(expected(n))) {
				t.Errorf("Get %d: %+v", n, x)
			}
			for _, h := range x.From {
				spoil(h.Lines)
			}
			spoil(x.From)
			spoil(x.Lines)
			spoil(x.Nets)
		}
		list := c.Waits()
		if !slices.Equal(list, []int{asking, preparing}) {
			t.Errorf("Waits: %v", list)
		}
		spoil(list)
	}
	same(t, "behind a change of what was answered", c, before)
}
