package vote_test

import (
	"maps"
	"math/rand"
	"slices"
	"testing"

	"contra/api"
	"contra/book"
	"contra/cycle"
	"contra/elim"
	"contra/item"
	"contra/match"
	"contra/msg"
	"contra/vote"
)

// model is an entity as the chapter's words tell it: items by their names, cycles by their numbers.
type model struct {
	items map[api.ID]api.Item
	parts map[int]vote.Part
}

// modelOf is the model of an entity.
func modelOf(w whole) model {
	m := model{map[api.ID]api.Item{}, map[int]vote.Part{}}
	for _, x := range w.book.Items {
		m.items[x.ID] = x
	}
	for _, x := range w.parts.List {
		m.parts[x.Cycle] = x
	}
	return m
}

// whole is what a model is of.
func (w model) whole() whole {
	v := whole{vote.Parts{Me: me, N: others}, book.Book{Me: me}}
	for _, name := range slices.SortedFunc(maps.Keys(w.items), book.Compare) {
		v.book.Items = append(v.book.Items, w.items[name])
	}
	for _, n := range slices.Sorted(maps.Keys(w.parts)) {
		v.parts.List = append(v.parts.List, w.parts[n])
	}
	return v
}

// do does what the chapter tells.
func (w model) do(m api.Msg, from int) ([]match.Said, api.Errno) {
	switch m.Kind {
	case msg.Ask, msg.Prepare, msg.Decide:
		if from == match.Client {
			return nil, api.ErrKind
		}
	case msg.Due:
		if from != match.Client {
			return nil, api.ErrKind
		}
	default:
		return nil, api.ErrKind
	}
	if from != match.Client && from != others {
		return nil, api.ErrOther
	}
	x, there := w.parts[m.Cycle]
	if m.Kind == msg.Ask {
		return w.ask(m, there)
	}
	if !there {
		return nil, api.ErrMissing
	}
	if x.State == vote.Done || x.State == vote.Undone {
		return nil, api.ErrState
	}
	switch m.Kind {
	case msg.Prepare:
		if x.State != vote.Offered {
			return nil, api.ErrState
		}
		x.State = vote.No
		if w.right(m) {
			x.State = vote.Yes
			for _, l := range m.Lines {
				if l.Seller == me || l.Buyer == me {
					x.Lines = append(x.Lines, l)
				}
			}
		}
		w.parts[m.Cycle] = x
		return []match.Said{answer(m.Cycle, x.State == vote.Yes)}, api.OK
	case msg.Decide:
		if m.Yes && x.State != vote.Yes {
			return nil, api.ErrState
		}
		w.decide(m, x)
		return nil, api.OK
	}
	return []match.Said{query(m.Cycle)}, api.OK
}

// ask does what the chapter tells of Ask.
func (w model) ask(m api.Msg, there bool) ([]match.Said, api.Errno) {
	if m.Cycle < 1 || m.Cycle > 1048576 || m.Currency < 0 || m.Currency > 7 {
		return nil, api.ErrRange
	}
	if there {
		return nil, api.ErrTwice
	}
	var items []api.Item
	for _, name := range slices.SortedFunc(maps.Keys(w.items), book.Compare) {
		x := w.items[name]
		if x.State == item.Agreed && x.Currency == m.Currency && x.Cycle == 0 && len(items) < 128 {
			items = append(items, x)
			w.items[name] = in(x, m.Cycle)
		}
	}
	w.parts[m.Cycle] = vote.Part{Cycle: m.Cycle, Currency: m.Currency, State: vote.Offered}
	return []match.Said{offer(m.Cycle, items...)}, api.OK
}

// right says whether the entity says yes.
func (w model) right(m api.Msg) bool {
	if len(m.Nets) != others {
		return false
	}
	sums := make([]int64, others)
	for i, x := range m.Lines {
		if x.Seller < 0 || x.Seller >= others || x.Buyer < 0 || x.Buyer >= others || x.Seller == x.Buyer || x.Number < 1 || x.Amount < 1 {
			return false
		}
		if i > 0 && book.Compare(m.Lines[i-1].ID, x.ID) >= 0 {
			return false
		}
		sums[x.Seller] += x.Amount
		sums[x.Buyer] -= x.Amount
		y, there := w.items[x.ID]
		if x.Seller != me && x.Buyer != me {
			continue
		}
		if !there || y.State != item.Agreed || y.Cycle != m.Cycle || y.Buyer != x.Buyer || y.Amount != x.Amount {
			return false
		}
	}
	return slices.Equal(sums, m.Nets)
}

// decide does what the chapter tells of Decide.
func (w model) decide(m api.Msg, p vote.Part) {
	for name, x := range w.items {
		if x.State != item.Agreed || x.Cycle != m.Cycle {
			continue
		}
		if m.Yes && slices.Contains(p.Lines, line(x)) {
			w.items[name] = of(x, item.Settled)
		} else {
			w.items[name] = in(x, 0)
		}
	}
	p.State = vote.Undone
	if m.Yes {
		p.State = vote.Done
	}
	w.parts[m.Cycle] = p
}

// speech is something that is said, and by whom, at random: mostly such as may be taken.
func speech(r *rand.Rand, w whole) (api.Msg, int) {
	pick := func(list ...int) int { return list[r.Intn(len(list))] }
	strange := func(usual ...int) int { // one time in twenty what is strange
		if r.Intn(20) == 0 {
			return pick(-1, 0, 1, 3, 5, 6, 8, 10, 1<<20+1)
		}
		return pick(usual...)
	}
	m := api.Msg{Kind: strange(msg.Ask, msg.Prepare, msg.Prepare, msg.Decide, msg.Decide, msg.Due), Cycle: strange(1+r.Intn(8), 1+r.Intn(40)), Currency: strange(0, 1, 2)}
	x, _ := w.parts.Get(m.Cycle)
	m.Yes = (x.State == vote.Yes) != (r.Intn(5) == 0)
	from := strange(chief)
	if m.Kind == msg.Due {
		from = strange(match.Client)
	}
	if m.Kind == msg.Prepare {
		prepared(r, w, &m)
	}
	return m, from
}

// prepared has a message tell of lines that the cycle has, some of them otherwise, and of nets, mostly right.
func prepared(r *rand.Rand, w whole, m *api.Msg) {
	keep := 1 + r.Intn(4)
	for _, x := range w.book.Items {
		if x.Cycle != m.Cycle && r.Intn(300) > 0 || r.Intn(4) >= keep {
			continue
		}
		l := line(x)
		switch r.Intn(100) {
		case 0:
			l.Amount++
		case 1:
			l.Buyer = (l.Buyer + 1) % others
		}
		m.Lines = append(m.Lines, l)
	}
	if r.Intn(2) == 0 {
		m.Lines = slices.Insert(m.Lines, 0, api.Line{ID: id(0, 1), Buyer: 2, Amount: 7})
	}
	m.Nets = nets(others, m.Lines)
	switch r.Intn(20) {
	case 0:
		m.Nets[r.Intn(others)]++
	case 1:
		m.Nets = append(m.Nets, 0)
	case 2:
		m.Nets = m.Nets[:others-1]
	case 3:
		slices.Reverse(m.Lines)
	}
}

// P17.1 to P17.4: whatever is said the entity does what the chapter's words tell.
func TestPartsAreAsTheWordsTell(t *testing.T) {
	counts, states, votes := map[api.Errno]int{}, map[int]int{}, map[bool]int{}
	for seed := range int64(80) {
		r := rand.New(rand.NewSource(seed))
		w := begin(t)
		for range 300 {
			if x := []api.Item{sold(1+r.Intn(60), r.Intn(3)), bought(1+r.Intn(60), r.Intn(3))}[r.Intn(2)]; r.Intn(2) == 0 { // a book goes on meanwhile
				if _, found := w.book.Get(x.ID); !found {
					w = w.put(t, of(x, []int{item.Agreed, item.Agreed, item.Proposed}[r.Intn(3)]))
				}
			}
			m, from := speech(r, w)
			v := modelOf(w)
			said, e := v.do(m, from)
			counts[e]++
			if e != api.OK {
				w.refuses(t, m, from, e)
			} else {
				w = w.does(t, m, from, v.whole(), said...)
			}
			if e == api.OK && m.Kind == msg.Prepare {
				votes[said[0].Msg.Yes]++
			}
			if t.Failed() {
				t.Fatalf("seed %d", seed)
			}
		}
		for _, x := range w.book.Items {
			states[x.State]++
		}
	}
	for _, e := range []api.Errno{api.OK, api.ErrRange, api.ErrMissing, api.ErrTwice, api.ErrState, api.ErrKind, api.ErrOther} {
		if counts[e] < 100 { // else the play says little
			t.Errorf("%v came %d times", e, counts[e])
		}
	}
	if states[item.Settled] < 300 || states[item.Agreed] < 300 || votes[true] < 100 || votes[false] < 100 {
		t.Errorf("states %v, votes %v", states, votes)
	}
}

// company is a group of entities, and what has become of its cycle.
type company struct {
	parts []vote.Parts
	books []book.Book
}

// founded is a group of so many with items, at random: most of them both parties have as agreed, some the buyer alone.
func founded(t *testing.T, r *rand.Rand, n int) company {
	t.Helper()
	var c company
	for who := range n {
		b, _ := book.New(who)
		c.books = append(c.books, b)
		c.parts = append(c.parts, vote.Parts{Me: who, N: n})
	}
	for seller := range n {
		for number := 1; number <= r.Intn(60); number++ {
			x := api.Item{ID: id(seller, number), Buyer: (seller + 1 + r.Intn(n-1)) % n, Currency: r.Intn(2), Amount: int64(1 + r.Intn(1000)), State: item.Agreed}
			c.put(t, x.Buyer, x)
			if r.Intn(10) == 0 {
				x.State = item.Proposed
			}
			c.put(t, seller, x)
		}
	}
	return c
}

// put has an entity have an item.
func (c company) put(t *testing.T, who int, x api.Item) {
	t.Helper()
	b, e := c.books[who].Put(x)
	if e != api.OK {
		t.Fatalf("Put %+v: %v", x, e)
	}
	c.books[who] = b
}

// tell tells an entity something, which it has to take; what it says is answered.
func (c company) tell(t *testing.T, who int, m api.Msg) []match.Said {
	t.Helper()
	p, b, said, e := c.parts[who].Do(c.books[who], m, len(c.parts))
	if e != api.OK {
		t.Fatalf("%d: %+v: %v", who, m, e)
	}
	c.parts[who], c.books[who] = p, b
	return said
}

// run runs a cycle as a coordinator would; the nets that it tells may be wrong, and it may give up. It answers the lines that are in, and whether it is done.
func (c company) run(t *testing.T, n, currency int, wrong, over bool) ([]api.Line, bool) {
	t.Helper()
	var offers [][]api.Line
	for who := range c.parts {
		said := c.tell(t, who, ask(n, currency))
		if e := cycle.Fits(len(c.parts), said[0].Msg.Lines); e != api.OK || len(said[0].Msg.Lines) > vote.MaxOffer {
			t.Errorf("the offer %+v: %v", said, e)
		}
		offers = append(offers, said[0].Msg.Lines)
	}
	both := cycle.Both(offers)
	sums, e := cycle.Nets(len(c.parts), both)
	if e != api.OK {
		t.Errorf("Nets: %v", e)
	}
	if wrong {
		sums[0]++
	}
	all := true
	for who := range c.parts {
		said := c.tell(t, who, api.Msg{Kind: msg.Prepare, Cycle: n, Lines: both, Nets: sums})
		all = all && said[0].Msg.Yes
	}
	if all == wrong {
		t.Errorf("wrong: %v, all say yes: %v", wrong, all)
	}
	all = all && !over
	for who := range c.parts {
		c.tell(t, who, decide(n, all))
	}
	return both, all
}

// P17.2 to P17.4: all settle what both parties of each item have as agreed, or none does; what isn't settled is free again, and what is agreed is even.
func TestAllSettleOrNone(t *testing.T) {
	settled, left := 0, 0
	for seed := range int64(40) {
		r := rand.New(rand.NewSource(seed))
		c := founded(t, r, 2+r.Intn(7))
		total := map[int]int{}
		for n := 1; n <= 6; n++ {
			before := slices.Clone(c.books)
			both, all := c.run(t, n, r.Intn(2), r.Intn(4) == 0, r.Intn(4) == 0)
			for who, b := range c.books {
				for i, x := range b.Items {
					want := before[who].Items[i]
					if all && slices.Contains(both, line(x)) {
						want = in(of(want, item.Settled), n)
						total[who]++
					}
					if x != want {
						t.Fatalf("seed %d, cycle %d: %d has %+v, want %+v", seed, n, who, x, want)
					}
				}
				if list := c.parts[who].Waits(); len(list) != 0 {
					t.Errorf("%d waits for %v", who, list)
				}
			}
			evens(t, before, c.books, all)
		}
		for who, b := range c.books {
			settled, left = settled+total[who], left+len(b.Items)-total[who]
		}
	}
	if settled < 500 || left < 500 { // else the play says little
		t.Errorf("%d are settled, %d left", settled, left)
	}
}

// evens says that books are as even as they were: what a cycle settles changes nothing of what they say of each other.
func evens(t *testing.T, before, books []book.Book, all bool) {
	t.Helper()
	for currency := range 2 {
		if elim.Even(currency, books...) != elim.Even(currency, before...) && !all {
			t.Error("a cycle that is given up makes books uneven")
		}
		old, _ := elim.Group(currency, before...)
		now, e := elim.Group(currency, books...)
		a, _ := old.Total(currency)
		if b, _ := now.Total(currency); e != api.OK || a != b {
			t.Errorf("the group has %d of %d, and had %d", b, currency, a)
		}
	}
}
