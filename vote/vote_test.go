package vote_test

import (
	"math"
	"reflect"
	"slices"
	"testing"

	"contra/api"
	"contra/book"
	"contra/item"
	"contra/match"
	"contra/msg"
	"contra/vote"
)

// me is the entity whose parts most tests are about, among so many; the coordinator is the node of that number.
const (
	me     = 3
	others = 5
	chief  = others
)

// id is a name.
func id(seller, number int) api.ID { return api.ID{Seller: seller, Number: number} }

// sold is an item that me sells to 1, agreed, of a currency, by the number of which its amount goes.
func sold(number, currency int) api.Item {
	return api.Item{ID: id(me, number), Buyer: 1, Currency: currency, Amount: int64(100 + number), State: item.Agreed}
}

// bought is an item that me buys from 4, likewise.
func bought(number, currency int) api.Item {
	return api.Item{ID: id(4, number), Buyer: me, Currency: currency, Amount: int64(500 + number), State: item.Agreed}
}

// in is the item as a cycle has it.
func in(x api.Item, cycle int) api.Item {
	x.Cycle = cycle
	return x
}

// of is the item in a state.
func of(x api.Item, state int) api.Item {
	x.State = state
	return x
}

// line is an item's part in a cycle, as the chapter of layer 11 tells it.
func line(x api.Item) api.Line { return api.Line{ID: x.ID, Buyer: x.Buyer, Amount: x.Amount} }

// lines are the items' parts.
func lines(items ...api.Item) []api.Line {
	var list []api.Line
	for _, x := range items {
		list = append(list, line(x))
	}
	return list
}

// nets are what so many have to have of lines, less what they have to pay.
func nets(n int, list []api.Line) []int64 {
	sums := make([]int64, n)
	for _, x := range list {
		sums[x.Seller] += x.Amount
		sums[x.Buyer] -= x.Amount
	}
	return sums
}

// ask, prepare, decide and due are the messages; what the kind hasn't is zero.
func ask(cycle, currency int) api.Msg {
	return api.Msg{Kind: msg.Ask, Cycle: cycle, Currency: currency}
}

func prepare(cycle int, list ...api.Line) api.Msg {
	return api.Msg{Kind: msg.Prepare, Cycle: cycle, Lines: list, Nets: nets(others, list)}
}

func decide(cycle int, yes bool) api.Msg {
	return api.Msg{Kind: msg.Decide, Cycle: cycle, Yes: yes}
}

func due(cycle int) api.Msg { return api.Msg{Kind: msg.Due, Cycle: cycle} }

// odd is the message with all else that it could have, but its own.
func odd(m api.Msg) api.Msg {
	m.ID, m.Buyer, m.Round, m.Amount = id(-7, 77), 7, -1, -5
	if m.Kind != msg.Ask {
		m.Currency = -9
	}
	if m.Kind != msg.Decide {
		m.Yes = !m.Yes
	}
	if m.Kind != msg.Prepare {
		m.Lines, m.Nets = []api.Line{{Buyer: 9}}, []int64{4}
	}
	return m
}

// offer, answer and query are what an entity says.
func offer(cycle int, items ...api.Item) match.Said {
	return match.Said{To: chief, Msg: api.Msg{Kind: msg.Offer, Cycle: cycle, Lines: lines(items...)}}
}

func answer(cycle int, yes bool) match.Said {
	return match.Said{To: chief, Msg: api.Msg{Kind: msg.Vote, Cycle: cycle, Yes: yes}}
}

func query(cycle int) match.Said {
	return match.Said{To: chief, Msg: api.Msg{Kind: msg.Query, Cycle: cycle}}
}

// whole is an entity's parts, and its book.
type whole struct {
	parts vote.Parts
	book  book.Book
}

// begin is an entity without parts, and with these items.
func begin(t *testing.T, items ...api.Item) whole {
	t.Helper()
	b, e := book.New(me)
	if e != api.OK {
		t.Fatalf("New: %v", e)
	}
	return whole{vote.Parts{Me: me, N: others}, b}.put(t, items...)
}

// put is the same with items.
func (w whole) put(t *testing.T, items ...api.Item) whole {
	t.Helper()
	for _, x := range items {
		b, e := w.book.Put(x)
		if e != api.OK {
			t.Fatalf("Put %+v: %v", x, e)
		}
		w.book = b
	}
	return w
}

// part is the same with a cycle.
func (w whole) part(x vote.Part) whole {
	list := slices.DeleteFunc(slices.Clone(w.parts.List), func(y vote.Part) bool { return y.Cycle == x.Cycle })
	list = append(list, x)
	slices.SortFunc(list, func(x, y vote.Part) int { return x.Cycle - y.Cycle })
	w.parts.List = list
	return w
}

// copied is the same in memory of its own, no list being nil.
func (w whole) copied() whole {
	list := append([]vote.Part{}, w.parts.List...)
	for i, x := range list {
		list[i].Lines = append([]api.Line{}, x.Lines...)
	}
	w.parts.List = list
	w.book = book.Book{Me: w.book.Me, Items: append([]api.Item{}, w.book.Items...), Orders: append([]book.Order{}, w.book.Orders...)}
	return w
}

// same says that an entity is just as it should be.
func same(t *testing.T, call string, w, want whole) {
	t.Helper()
	if a, b := w.copied(), want.copied(); !reflect.DeepEqual(a, b) {
		t.Errorf("%s: %+v, want %+v", call, a, b)
	}
}

// alike says whether two lists of what is said are the same.
func alike(a, b []match.Said) bool {
	return slices.EqualFunc(a, b, func(x, y match.Said) bool {
		if !slices.Equal(x.Msg.Lines, y.Msg.Lines) || !slices.Equal(x.Msg.Nets, y.Msg.Nets) {
			return false
		}
		x.Msg.Lines, x.Msg.Nets, y.Msg.Lines, y.Msg.Nets = nil, nil, nil, nil
		return reflect.DeepEqual(x, y)
	})
}

// does says what Do answers where it is taken: what is behind it, and what is said.
func (w whole) does(t *testing.T, m api.Msg, from int, want whole, said ...match.Said) whole {
	t.Helper()
	before := w.copied()
	p, b, list, e := w.parts.Do(w.book, m, from)
	if e != api.OK {
		t.Errorf("Do %+v from %d: %v", m, from, e)
	}
	same(t, "behind Do", whole{p, b}, want)
	if !alike(list, said) {
		t.Errorf("Do %+v from %d says %+v, want %+v", m, from, list, said)
	}
	same(t, "what Do was called on", w, before)
	return whole{p, b}
}

// refuses says with which error Do answers, and that nothing is otherwise then.
func (w whole) refuses(t *testing.T, m api.Msg, from int, want api.Errno) {
	t.Helper()
	before := w.copied()
	p, b, list, e := w.parts.Do(w.book, m, from)
	if e != want || len(list) != 0 {
		t.Errorf("Do %+v from %d: says %+v, %v; want %v", m, from, list, e, want)
	}
	same(t, "beside an error of Do", whole{p, b}, before)
	same(t, "behind a refused Do", w, before)
}

// told is what is behind messages that have to be taken.
func (w whole) told(t *testing.T, list ...api.Msg) whole {
	t.Helper()
	for _, m := range list {
		from := chief
		if m.Kind == msg.Due {
			from = match.Client
		}
		p, b, _, e := w.parts.Do(w.book, m, from)
		if e != api.OK {
			t.Fatalf("Do %+v: %v", m, e)
		}
		w = whole{p, b}
	}
	return w
}

// The cycles of all.
const (
	offered  = 2 * vote.Offered
	yes      = 2 * vote.Yes
	no       = 2 * vote.No
	done     = 2 * vote.Done
	undone   = 2 * vote.Undone
	undoneBy = undone + 2 // it had said yes
)

// cycles are all of them.
func cycles() []int { return []int{offered, yes, no, done, undone, undoneBy} }

// all has a cycle in each state, of two sold items and a bought one each, of the currency that is half the cycle's number; the second one that is sold isn't among those that are reckoned.
func all(t *testing.T) whole {
	t.Helper()
	w := begin(t)
	for _, n := range cycles() {
		a, b, c := sold(10*n, n/2), sold(10*n+1, n/2), bought(10*n, n/2)
		w = w.put(t, a, b, c).told(t, ask(n, n/2))
		switch right := prepare(n, line(a), line(c)); n {
		case yes:
			w = w.told(t, right)
		case no:
			right.Nets[0]++
			w = w.told(t, right)
		case done:
			w = w.told(t, right, decide(n, true))
		case undone:
			w = w.told(t, decide(n, false))
		case undoneBy:
			w = w.told(t, right, decide(n, false))
		}
	}
	return w
}

// wild are numbers inside and outside what is taken.
func wild() []int {
	return []int{math.MinInt, math.MinInt + 1, -2, -1, 0, 1, 2, 3, 4, 5, 6, 7, 8, 9, 10, 12, 13, 1 << 20, 1<<20 + 1, math.MaxInt - 1, math.MaxInt}
}

// P17.1: of all that can become of a cycle.
func TestGet(t *testing.T) {
	w := all(t)
	for _, n := range append(wild(), 3, 11) {
		x, found := w.parts.Get(n)
		want := vote.Part{Cycle: n, Currency: n / 2}
		switch n {
		case offered:
			want.State = vote.Offered
		case yes:
			want.State = vote.Yes
		case no:
			want.State = vote.No
		case done:
			want.State = vote.Done
		case undone, undoneBy:
			want.State = vote.Undone
		default:
			want = vote.Part{}
		}
		if n == yes || n == done || n == undoneBy { // it said yes
			want.Lines = lines(sold(10*n, n/2), bought(10*n, n/2))
		}
		if len(x.Lines) == 0 {
			x.Lines = nil
		}
		if found != slices.Contains(cycles(), n) || !reflect.DeepEqual(x, want) {
			t.Errorf("Get %d: %+v, %v; want %+v", n, x, found, want)
		}
		if x, found := (vote.Parts{Me: me, N: others}).Get(n); found || x.Cycle != 0 || x.Lines != nil {
			t.Errorf("Get %d of none: %+v, %v", n, x, found)
		}
	}
}

// P17.1
func TestWaits(t *testing.T) {
	if list := (vote.Parts{Me: me, N: others}).Waits(); len(list) != 0 {
		t.Errorf("none: %v", list)
	}
	w := all(t)
	if list := w.parts.Waits(); !slices.Equal(list, []int{offered, yes, no}) {
		t.Errorf("all: %v", list)
	}
	w = w.told(t, ask(1, 0), ask(item.MaxCycle, 0), ask(5, 7), decide(no, false)) // they rise in whatever order they came
	if list := w.parts.Waits(); !slices.Equal(list, []int{1, offered, yes, 5, item.MaxCycle}) {
		t.Errorf("more: %v", list)
	}
	w = w.told(t, decide(yes, true), decide(offered, false), decide(1, false), decide(5, false), decide(item.MaxCycle, false))
	if list := w.parts.Waits(); len(list) != 0 {
		t.Errorf("all decided: %v", list)
	}
}

// The states are what the chapter tells.
func TestStates(t *testing.T) {
	list := []int{vote.Offered, vote.Yes, vote.No, vote.Done, vote.Undone}
	if !slices.Equal(list, []int{1, 2, 3, 4, 5}) || vote.MaxOffer != 128 {
		t.Errorf("%v, MaxOffer %d", list, vote.MaxOffer)
	}
}

// P17.1: who says what; that goes ahead of what is said.
func TestWhoSaysWhat(t *testing.T) {
	w := all(t)
	for _, cycle := range append(wild(), yes, undoneBy) {
		for kind := -1; kind <= msg.Due+1; kind++ {
			m := api.Msg{Kind: kind, Cycle: cycle, Currency: cycle}
			for _, from := range wild() {
				ours := kind == msg.Ask || kind == msg.Prepare || kind == msg.Decide || kind == msg.Due
				switch {
				case !ours || (from == match.Client) != (kind == msg.Due):
					w.refuses(t, m, from, api.ErrKind)
				case from != match.Client && from != chief:
					w.refuses(t, m, from, api.ErrOther)
				default:
					if _, _, _, e := w.parts.Do(w.book, m, from); e == api.ErrKind || e == api.ErrOther {
						t.Errorf("Do %+v from %d: %v", m, from, e)
					}
				}
			}
		}
	}
	for _, kind := range []int{math.MinInt, math.MaxInt, msg.Ask + 1<<32} {
		w.refuses(t, api.Msg{Kind: kind, Cycle: 1}, chief, api.ErrKind)
		w.refuses(t, api.Msg{Kind: kind, Cycle: 1}, match.Client, api.ErrKind)
	}
}

// P17.1: the coordinator is the node of as many as there are.
func TestTheCoordinatorIsTheNodeN(t *testing.T) {
	for n := 1; n <= api.MaxEntity; n++ {
		b, _ := book.New(0)
		p := vote.Parts{Me: 0, N: n}
		for from := range 10 {
			next, _, said, e := p.Do(b, ask(1, 0), from)
			if from != n {
				if e != api.ErrOther {
					t.Errorf("of %d, from %d: %v", n, from, e)
				}
				continue
			}
			if e != api.OK || len(said) != 1 || said[0].To != n {
				t.Errorf("of %d, from %d: %+v, %v", n, from, said, e)
			}
			_, _, said, e = next.Do(b, due(1), match.Client)
			if e != api.OK || len(said) != 1 || said[0].To != n {
				t.Errorf("of %d, by its clock: %+v, %v", n, said, e)
			}
			if next.Me != 0 || next.N != n {
				t.Errorf("of %d: %+v", n, next)
			}
		}
	}
}

// P17.2
func TestAsk(t *testing.T) {
	free := []api.Item{sold(1, 2), sold(5, 2), bought(2, 2), bought(4, 2)}
	rest := []api.Item{
		sold(2, 1), bought(3, 7), // other currencies
		of(sold(3, 2), item.Proposed), of(sold(4, 2), item.Disputed), of(bought(5, 2), item.Cancelled),
		in(sold(6, 2), 9), in(of(bought(6, 2), item.Settled), 9), in(of(sold(7, 2), item.Settled), 4),
	}
	w := begin(t, rest...).put(t, free...)
	for _, n := range []int{1, 4, 9, item.MaxCycle} {
		var locked []api.Item
		for _, x := range free {
			locked = append(locked, in(x, n))
		}
		want := w.put(t, locked...).part(vote.Part{Cycle: n, Currency: 2, State: vote.Offered})
		w.does(t, ask(n, 2), chief, want, offer(n, free...))
		next := w.does(t, odd(ask(n, 2)), chief, want, offer(n, free...))
		next.refuses(t, ask(n, 2), chief, api.ErrTwice)
		next.refuses(t, ask(n, 1), chief, api.ErrTwice)
		other := n/2 + 3 // another cycle of the same: nothing is left of the currency, but of others
		next.does(t, ask(other, 2), chief, next.part(vote.Part{Cycle: other, Currency: 2, State: vote.Offered}), offer(other))
		next.does(t, ask(other, 7), chief, next.put(t, in(rest[1], other)).part(vote.Part{Cycle: other, Currency: 7, State: vote.Offered}), offer(other, rest[1]))
	}
	for currency := range api.MaxCurrency {
		begin(t).does(t, ask(3, currency), chief, begin(t).part(vote.Part{Cycle: 3, Currency: currency, State: vote.Offered}), offer(3))
	}
}

// P17.2
func TestAskOffersTheFirst(t *testing.T) {
	for _, count := range []int{0, 1, 127, 128, 129, 255, 256, 257, 500} {
		w := begin(t)
		var free []api.Item
		for n := range count {
			free = append(free, sold(2*n+1, 6))
			w = w.put(t, sold(2*n+2, 5)) // what is between them counts for nothing
		}
		w = w.put(t, free...).put(t, bought(1, 5))
		for n := 1; n <= 6; n++ {
			some := free[:min(len(free), 128)]
			free = free[len(some):]
			want := w.part(vote.Part{Cycle: n, Currency: 6, State: vote.Offered})
			for _, x := range some {
				want = want.put(t, in(x, n))
			}
			w = w.does(t, ask(n, 6), chief, want, offer(n, some...))
		}
	}
}

// P17.2: those that stand first in the order of names, whatever came first.
func TestAskOffersInTheOrderOfNames(t *testing.T) {
	w := begin(t)
	for n := 100; n > 0; n-- {
		w = w.put(t, bought(n, 0), sold(n, 0))
	}
	var first []api.Item
	want := w.part(vote.Part{Cycle: 1, State: vote.Offered})
	for n := 1; n <= 100; n++ {
		first = append(first, sold(n, 0))
	}
	for n := 1; n <= 28; n++ {
		first = append(first, bought(n, 0))
	}
	for _, x := range first {
		want = want.put(t, in(x, 1))
	}
	w.does(t, ask(1, 0), chief, want, offer(1, first...))
}

// P17.2
func TestAskRefuses(t *testing.T) {
	for _, w := range []whole{begin(t), all(t), begin(t, sold(1, 2))} {
		for _, n := range wild() {
			if n < 1 || n > 1<<20 {
				w.refuses(t, ask(n, 2), chief, api.ErrRange)
				w.refuses(t, ask(n, -1), chief, api.ErrRange)
			}
			if n < 0 || n > 7 {
				w.refuses(t, ask(1, n), chief, api.ErrRange)
				w.refuses(t, ask(offered, n), chief, api.ErrRange) // ahead of one that is there
				w.refuses(t, ask(item.MaxCycle, n), chief, api.ErrRange)
			}
		}
	}
	w := all(t)
	for _, n := range cycles() {
		for currency := range api.MaxCurrency {
			w.refuses(t, ask(n, currency), chief, api.ErrTwice)
		}
	}
}

// offering has offered these in the cycle 2, of the currency 1.
func offering(t *testing.T, items ...api.Item) whole {
	t.Helper()
	return begin(t, items...).told(t, ask(2, 1))
}

// says says which vote there is on a message, and with which lines.
func (w whole) says(t *testing.T, m api.Msg, yes bool, mine ...api.Line) {
	t.Helper()
	x := vote.Part{Cycle: m.Cycle, Currency: 1, State: vote.No}
	if yes {
		x.State, x.Lines = vote.Yes, mine
	}
	want := w.part(x)
	w.does(t, m, chief, want, answer(m.Cycle, yes))
	w.does(t, odd(m), chief, want, answer(m.Cycle, yes))
}

// P17.3
func TestPrepareOfWhatIsRight(t *testing.T) {
	a, b, c := sold(1, 1), sold(2, 1), bought(7, 1)
	w := offering(t, a, b, c)
	x, y := api.Line{ID: id(0, 9), Buyer: 1, Amount: 66}, api.Line{ID: id(4, 8), Buyer: 2, Amount: 1 << 50} // others'
	w.says(t, prepare(2), true)
	w.says(t, prepare(2, x, y), true)
	w.says(t, prepare(2, lines(a, b, c)...), true, lines(a, b, c)...)
	w.says(t, prepare(2, lines(b, c)...), true, lines(b, c)...)
	w.says(t, prepare(2, x, line(a), line(c), y), true, line(a), line(c))
	w.says(t, prepare(2, line(a), y), true, line(a))
	w.says(t, prepare(2, x, line(c)), true, line(c))
	// The book may have gone on meanwhile: what is in is still as it was.
	w = w.put(t, sold(3, 1), in(bought(8, 1), 5)).told(t, ask(3, 1))
	w.says(t, prepare(2, x, line(a), line(c), y), true, line(a), line(c))
}

// P17.3
func TestPrepareOfNetsThatAreNotRight(t *testing.T) {
	a, b, c := sold(1, 1), sold(2, 1), bought(7, 1)
	w := offering(t, a, b, c)
	good := prepare(2, lines(a, b, c)...)
	for i := range good.Nets {
		for _, off := range []int64{1, -1, 1 << 50, math.MinInt64} {
			m := good
			m.Nets = slices.Clone(good.Nets)
			m.Nets[i] += off
			w.says(t, m, false)
			m.Nets[(i+1)%others] -= off
			w.says(t, m, false)
		}
	}
	for n := range 12 { // as many as there are entities, no fewer, and no more
		if n == others {
			continue
		}
		m := good
		m.Nets = append(slices.Clone(good.Nets), make([]int64, 9)...)[:n]
		w.says(t, m, false)
		m = prepare(2)
		m.Nets = make([]int64, n)
		w.says(t, m, false)
	}
	m := good
	m.Nets = nil
	w.says(t, m, false)
}

// P17.3
func TestPrepareOfLinesThatDoNotFit(t *testing.T) {
	a, b, c := sold(1, 1), sold(2, 1), bought(7, 1)
	w := offering(t, a, b, c)
	zeros := make([]int64, others)
	x := api.Line{ID: id(0, 9), Buyer: 1, Amount: 66}
	for _, list := range [][]api.Line{
		lines(b, a, c), lines(a, a), lines(c, a), {line(a), x}, // out of order, or twice
		{x, {ID: id(1, 5), Buyer: 1, Amount: 5}}, {x, {ID: id(1, 0), Buyer: 2, Amount: 5}}, {{ID: id(1, 2), Buyer: 2, Amount: 0}}, {{ID: id(1, 2), Buyer: 2, Amount: 1<<50 + 1}},
		{{ID: id(0, 1<<20+1), Buyer: 2, Amount: 5}}, {{ID: id(0, 1), Buyer: -1, Amount: 5}}, {{ID: id(-1, 1), Buyer: 2, Amount: 5}},
		{{ID: id(0, 1), Buyer: others, Amount: 5}}, {{ID: id(others, 1), Buyer: 2, Amount: 5}}, {{ID: id(others, 1), Buyer: others + 1, Amount: 5}},
	} {
		inside := slices.DeleteFunc(slices.Clone(list), func(x api.Line) bool {
			return x.Seller < 0 || x.Seller >= others || x.Buyer < 0 || x.Buyer >= others
		})
		for _, sums := range [][]int64{zeros, nets(others, inside)} {
			w.says(t, api.Msg{Kind: msg.Prepare, Cycle: 2, Lines: list, Nets: sums}, false)
		}
	}
	// Among as many as nets tell of they would fit.
	eight := []api.Line{{ID: id(5, 1), Buyer: 6, Amount: 5}}
	w.says(t, api.Msg{Kind: msg.Prepare, Cycle: 2, Lines: eight, Nets: nets(8, eight)}, false)
}

// P17.3
func TestPrepareOfWhatTheBookHasOtherwise(t *testing.T) {
	for _, a := range []api.Item{sold(1, 1), bought(1, 1)} {
		good := prepare(2, line(a))
		w := offering(t, a, sold(2, 1), bought(2, 1))
		w.says(t, good, true, line(a))
		more, other, late := a, a, a
		more.Amount++
		other.Currency = 3
		late.Round = 2
		for _, x := range []api.Item{
			in(a, 0), in(a, 1), in(a, 3), in(of(a, item.Settled), 2), in(of(a, item.Settled), 1), // freed, of other cycles, settled
			of(a, item.Proposed), of(a, item.Disputed), of(a, item.Cancelled), in(more, 2), in(more, 0),
		} {
			w.put(t, x).says(t, good, false)
		}
		for _, x := range []api.Item{in(other, 2), in(late, 2)} { // neither stands in a line
			w.put(t, x).says(t, good, true, line(a))
		}
		for _, change := range []func(x *api.Line){
			func(x *api.Line) { x.Amount++ }, func(x *api.Line) { x.Amount-- }, func(x *api.Line) { x.Number = 3 },
		} {
			x := line(a)
			change(&x)
			w.says(t, prepare(2, x), false)
		}
		begin(t).told(t, ask(2, 1)).says(t, good, false)
		begin(t, a).told(t, ask(2, 0)).does(t, good, chief, begin(t, a).part(vote.Part{Cycle: 2, State: vote.No}), answer(2, false))
	}
	// The other party of one that it has, and one that it has as another's.
	w := offering(t, sold(1, 1), bought(1, 1))
	x, y := line(sold(1, 1)), line(bought(1, 1))
	x.Buyer, y.Seller = 2, 2
	w.says(t, prepare(2, x), false)
	w.says(t, prepare(2, y), false)
	// One that isn't right is enough, wherever it stands.
	w = offering(t, sold(1, 1), sold(2, 1), sold(3, 1))
	for n := 1; n <= 3; n++ {
		w.put(t, sold(n, 1)).says(t, prepare(2, lines(sold(1, 1), sold(2, 1), sold(3, 1))...), false)
	}
	// What the book has counts for nothing where the entity has no part in the line.
	y = line(bought(1, 1))
	y.Buyer = 0
	offering(t, bought(1, 1)).says(t, prepare(2, y), true)
}

// P17.3
func TestPrepareRefuses(t *testing.T) {
	w := all(t)
	for _, list := range [][]api.Line{nil, lines(sold(20, 1), bought(20, 1)), lines(bought(1, 1), sold(1, 1))} {
		for _, n := range append(wild(), 3, 11) {
			m := prepare(n, list...)
			switch {
			case !slices.Contains(cycles(), n):
				w.refuses(t, m, chief, api.ErrMissing)
			case n != offered:
				w.refuses(t, m, chief, api.ErrState)
			}
			begin(t).refuses(t, m, chief, api.ErrMissing)
		}
	}
}

// P17.4
func TestDecideThatItIsDone(t *testing.T) {
	a, b, c, d := sold(1, 1), sold(2, 1), bought(7, 1), bought(8, 1)
	for _, list := range [][]api.Item{nil, {a}, {c}, {a, c}, {b, d}, {a, b, c, d}} {
		w := offering(t, a, b, c, d).told(t, prepare(2, lines(list...)...))
		w = w.put(t, sold(4, 1), in(sold(5, 1), 3), in(of(sold(6, 1), item.Settled), 2), of(bought(9, 1), item.Disputed)) // no others
		want := w.part(vote.Part{Cycle: 2, Currency: 1, State: vote.Done, Lines: lines(list...)})
		for _, x := range []api.Item{a, b, c, d} {
			if slices.Contains(list, x) {
				want = want.put(t, in(of(x, item.Settled), 2))
			} else {
				want = want.put(t, x)
			}
		}
		w.does(t, decide(2, true), chief, want)
		next := w.does(t, odd(decide(2, true)), chief, want)
		next.refuses(t, decide(2, true), chief, api.ErrState)
		next.refuses(t, decide(2, false), chief, api.ErrState)
	}
}

// P17.4: whatever the entity said.
func TestDecideThatItIsUndone(t *testing.T) {
	a, b, c, d := sold(1, 1), sold(2, 1), bought(7, 1), bought(8, 1)
	wrong := prepare(2, lines(a, c)...)
	wrong.Nets[0]++
	for _, told := range [][]api.Msg{nil, {prepare(2)}, {prepare(2, lines(a, c)...)}, {prepare(2, lines(a, b, c, d)...)}, {wrong}} {
		w := offering(t, a, b, c, d).told(t, told...)
		w = w.put(t, sold(4, 1), in(sold(5, 1), 3), in(of(sold(6, 1), item.Settled), 2), of(bought(9, 1), item.Disputed))
		x, _ := w.parts.Get(2)
		x.State = vote.Undone // its lines stay
		want := w.put(t, a, b, c, d).part(x)
		w.does(t, decide(2, false), chief, want)
		next := w.does(t, odd(decide(2, false)), chief, want)
		next.refuses(t, decide(2, true), chief, api.ErrState)
		next.refuses(t, decide(2, false), chief, api.ErrState)
		// What is free again another cycle may have.
		next.told(t, ask(3, 1), prepare(3, lines(a, b, c, d)...), decide(3, true))
	}
}

// P17.4: only those whose very line was in are settled, though they are of that name.
func TestDecideOfWhatTheBookHasOtherwise(t *testing.T) {
	a, c := sold(1, 1), bought(7, 1)
	w := offering(t, a, c).told(t, prepare(2, lines(a, c)...))
	more := a
	more.Amount++
	x := vote.Part{Cycle: 2, Currency: 1, State: vote.Done, Lines: lines(a, c)}
	settled := in(of(c, item.Settled), 2)
	v := w.put(t, in(more, 2), in(sold(9, 4), 2)) // also one that it didn't offer, but has locked
	v.does(t, decide(2, true), chief, v.put(t, more, settled, sold(9, 4)).part(x))
	v = w.put(t, in(a, 3)) // it isn't this cycle's any more
	v.does(t, decide(2, true), chief, v.put(t, settled).part(x))
	v = w.put(t, in(a, 0))
	v.does(t, decide(2, true), chief, v.put(t, settled).part(x))
}

// P17.4
func TestDecideRefuses(t *testing.T) {
	w := all(t)
	for _, n := range append(wild(), 3, 11) {
		switch {
		case !slices.Contains(cycles(), n):
			w.refuses(t, decide(n, true), chief, api.ErrMissing)
			w.refuses(t, decide(n, false), chief, api.ErrMissing)
		case n != yes:
			w.refuses(t, decide(n, true), chief, api.ErrState)
			if n != offered && n != no {
				w.refuses(t, decide(n, false), chief, api.ErrState)
			}
		}
		begin(t).refuses(t, decide(n, false), chief, api.ErrMissing)
	}
}

// P17.4
func TestDue(t *testing.T) {
	w := all(t)
	for _, n := range append(wild(), 3, 11) {
		switch n {
		case offered, yes, no:
			w.does(t, due(n), match.Client, w, query(n))
			w.does(t, odd(due(n)), match.Client, w, query(n))
			w.told(t, due(n), due(n)).does(t, due(n), match.Client, w, query(n)) // as often as it is due
		case done, undone, undoneBy:
			w.refuses(t, due(n), match.Client, api.ErrState)
		default:
			w.refuses(t, due(n), match.Client, api.ErrMissing)
		}
	}
}

// P17.2 to P17.4: the chapter's example.
func TestTheExample(t *testing.T) {
	b, _ := book.New(0)
	x := api.Item{ID: id(0, 1), Buyer: 1, Amount: 70, State: item.Agreed}
	b, _ = b.Put(x)
	p := vote.Parts{Me: 0, N: 2}
	p, b, said, e := p.Do(b, ask(1, 0), 2)
	if e != api.OK || !alike(said, []match.Said{{To: 2, Msg: api.Msg{Kind: msg.Offer, Cycle: 1, Lines: lines(x)}}}) || !slices.Equal(b.Items, []api.Item{in(x, 1)}) {
		t.Errorf("it is offered: %+v, %v", said, e)
	}
	p, b, said, e = p.Do(b, api.Msg{Kind: msg.Prepare, Cycle: 1, Lines: lines(x), Nets: []int64{70, -70}}, 2)
	if e != api.OK || !alike(said, []match.Said{{To: 2, Msg: api.Msg{Kind: msg.Vote, Cycle: 1, Yes: true}}}) || !slices.Equal(b.Items, []api.Item{in(x, 1)}) {
		t.Errorf("70 and -70 are right: %+v, %v", said, e)
	}
	p, b, said, e = p.Do(b, decide(1, true), 2)
	if e != api.OK || len(said) != 0 || !slices.Equal(b.Items, []api.Item{in(of(x, item.Settled), 1)}) || len(p.Waits()) != 0 {
		t.Errorf("it is settled: %+v, %v", said, e)
	}
}

// P1
func TestEveryCallEndsAtAllArguments(t *testing.T) {
	list := []whole{{}, {parts: vote.Parts{Me: math.MinInt, N: math.MinInt}}, {parts: vote.Parts{Me: -1, N: -1}}, {parts: vote.Parts{Me: math.MaxInt, N: math.MaxInt}}, begin(t), all(t)}
	outside := make([]api.Line, 3)
	huge := slices.Repeat([]api.Line{{ID: id(me, 1), Buyer: 1, Amount: math.MaxInt64}}, 3000)
	for _, w := range list {
		before := w.copied()
		for _, n := range wild() {
			w.parts.Get(n)
			w.parts.Waits()
			for kind := -1; kind <= msg.Due+1; kind++ {
				for _, from := range []int{n, w.parts.N, match.Client} {
					for _, m := range []api.Msg{
						{Cycle: n, Currency: n, Amount: math.MinInt64},
						{Cycle: offered, Yes: true, Currency: n, Lines: outside, Nets: make([]int64, 5)},
						{Cycle: offered, Lines: []api.Line{{ID: id(n, n), Buyer: n, Amount: int64(n)}}, Nets: make([]int64, 5)},
						{Cycle: offered, Lines: []api.Line{{ID: id(me, n), Buyer: n, Amount: 5}}, Nets: make([]int64, 20)},
					} {
						m.Kind = kind
						w.parts.Do(w.book, m, from)
					}
				}
				w.parts.Do(w.book, api.Msg{Kind: kind, Cycle: offered, Lines: huge, Nets: make([]int64, others)}, chief)
			}
		}
		same(t, "at the end", w, before)
	}
}

// P2: what is handed in is neither changed nor kept, nor is what parts have found in others.
func TestPartsStayAsTheyAre(t *testing.T) {
	w := all(t)
	w.book.Items = slices.Grow(w.book.Items, 20) // room in which something could be put
	w.parts.List = slices.Grow(w.parts.List, 20)
	before := w.copied()
	a, b := sold(10*offered, offered/2), sold(10*offered+1, offered/2)
	room := append(lines(a, b), line(bought(9, 9)))
	m := prepare(offered, room[:2]...)
	sums := append(slices.Clone(m.Nets), 99)
	m.Nets = sums[:others]
	one := w.told(t, m)
	two := w.told(t, decide(offered, false))
	three := w.told(t, ask(1, 7))
	four := w.told(t, ask(99, 7))
	five := w.told(t, decide(yes, true))
	same(t, "behind all", w, before)
	same(t, "one", one, before.part(vote.Part{Cycle: offered, Currency: 1, State: vote.Yes, Lines: lines(a, b)}))
	same(t, "two", two, before.put(t, a, b, bought(10*offered, 1)).part(vote.Part{Cycle: offered, Currency: 1, State: vote.Undone}))
	same(t, "three", three, before.part(vote.Part{Cycle: 1, Currency: 7, State: vote.Offered}))
	same(t, "four", four, before.part(vote.Part{Cycle: 99, Currency: 7, State: vote.Offered}))
	if x, _ := five.parts.Get(yes); x.State != vote.Done {
		t.Errorf("five: %+v", x)
	}
	if !slices.Equal(room, append(lines(a, b), line(bought(9, 9)))) || !slices.Equal(sums, append(nets(others, lines(a, b)), 99)) {
		t.Error("a message is changed")
	}
	want := one.copied()
	for i := range room {
		room[i] = api.Line{}
	}
	same(t, "one, behind a change of what was handed in", one, want)
}

// P2: what is answered is new memory, its spare room, too.
func TestWhatIsAnsweredIsNewMemory(t *testing.T) {
	w := begin(t)
	for n := range 200 {
		w = w.put(t, sold(n+1, 1), bought(n+1, 2))
	}
	_, _, one, _ := w.parts.Do(w.book, ask(2, 1), chief)
	_, _, two, _ := w.parts.Do(w.book, ask(2, 1), chief)
	want := slices.Clone(two[0].Msg.Lines)
	room := one[0].Msg.Lines[:cap(one[0].Msg.Lines)]
	for i := range room {
		room[i] = api.Line{}
	}
	one[0].To = 99
	if two[0].To != chief || len(want) != vote.MaxOffer || !slices.Equal(two[0].Msg.Lines, want) {
		t.Error("two offers share memory")
	}
	w = all(t)
	before := w.copied()
	for range 2 {
		x, _ := w.parts.Get(yes)
		if !slices.Equal(x.Lines, lines(sold(10*yes, yes/2), bought(10*yes, yes/2))) {
			t.Errorf("Get: %+v", x)
		}
		room := x.Lines[:cap(x.Lines)]
		for i := range room {
			room[i] = api.Line{}
		}
		list := w.parts.Waits()
		if !slices.Equal(list, []int{offered, yes, no}) {
			t.Errorf("Waits: %v", list)
		}
		numbers := list[:cap(list)]
		for i := range numbers {
			numbers[i] = -1
		}
	}
	same(t, "behind it", w, before)
}
