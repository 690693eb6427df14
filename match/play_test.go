package match_test

import (
	"math/rand"
	"slices"
	"testing"

	"contra/api"
	"contra/book"
	"contra/item"
	"contra/match"
	"contra/msg"
)

// model is a desk as the chapter's words tell it: items and orders by their names.
type model struct {
	items  map[api.ID]api.Item
	orders map[api.ID]int64
}

// modelOf is the model of a desk.
func modelOf(d match.Desk) model {
	w := model{map[api.ID]api.Item{}, map[api.ID]int64{}}
	for _, x := range d.Book.Items {
		w.items[x.ID] = x
	}
	for _, o := range d.Book.Orders {
		w.orders[o.ID] = o.Amount
	}
	return w
}

// client does what the chapter tells of Issue, Order, Adjust, Withdraw and Due.
func (w model) client(m api.Msg) ([]match.Said, api.Errno) {
	x, there := w.items[m.ID]
	switch m.Kind {
	case msg.Issue:
		if m.Seller != me {
			return nil, api.ErrOther
		}
		if there {
			return nil, api.ErrTwice
		}
		if m.Buyer < 0 || m.Buyer > 7 || m.Buyer == me || m.Number < 1 || m.Number > api.MaxNumber || m.Currency < 0 || m.Currency > 7 || m.Amount < 1 || m.Amount > api.MaxAmount {
			return nil, api.ErrRange
		}
		x = api.Item{ID: m.ID, Buyer: m.Buyer, Currency: m.Currency, Amount: m.Amount, State: item.Proposed}
		w.items[m.ID] = x
		return []match.Said{{To: x.Buyer, Msg: about(msg.Propose, x)}}, api.OK
	case msg.Order:
		if m.Seller < 0 || m.Seller > 7 || m.Seller == me || m.Number < 1 || m.Number > api.MaxNumber || m.Amount < 1 || m.Amount > api.MaxAmount {
			return nil, api.ErrRange
		}
		w.orders[m.ID] = m.Amount
		return nil, api.OK
	}
	if !there {
		return nil, api.ErrMissing
	}
	if x.Seller != me {
		return nil, api.ErrOther
	}
	if m.Kind == msg.Due && m.Round != x.Round || x.State != item.Disputed {
		return nil, api.ErrState
	}
	kind := msg.Cancel
	x.State = item.Cancelled
	if m.Kind == msg.Adjust {
		if m.Amount < 1 || m.Amount > api.MaxAmount {
			return nil, api.ErrRange
		}
		if x.Round == 3 {
			return nil, api.ErrRound
		}
		x.State, x.Round, x.Amount, kind = item.Proposed, x.Round+1, m.Amount, msg.Propose
	}
	w.items[m.ID] = x
	return []match.Said{{To: x.Buyer, Msg: about(kind, x)}}, api.OK
}

// propose does what the chapter tells of Propose.
func (w model) propose(m api.Msg, from int, far int64) ([]match.Said, api.Errno) {
	if m.Seller < 0 || m.Seller > 7 || m.Buyer < 0 || m.Buyer > 7 || m.Seller == m.Buyer || m.Number < 1 || m.Number > api.MaxNumber || m.Currency < 0 || m.Currency > 7 || m.Amount < 1 || m.Amount > api.MaxAmount || m.Round < 0 || m.Round > 3 {
		return nil, api.ErrRange
	}
	if from != m.Seller || m.Buyer != me {
		return nil, api.ErrOther
	}
	if x, there := w.items[m.ID]; !there && m.Round != 0 || there && (x.State != item.Disputed || x.Round != m.Round-1 || x.Currency != m.Currency) {
		return nil, api.ErrState
	}
	x := api.Item{ID: m.ID, Buyer: m.Buyer, Currency: m.Currency, Amount: m.Amount, Round: m.Round, State: item.Disputed}
	kind := msg.Dispute
	if n, there := w.orders[m.ID]; there && n-m.Amount <= far && m.Amount-n <= far {
		x.State, kind = item.Agreed, msg.Confirm
	}
	w.items[m.ID] = x
	return []match.Said{{To: m.Seller, Msg: about(kind, x)}}, api.OK
}

// answer does what the chapter tells of Confirm, Dispute and Cancel.
func (w model) answer(m api.Msg, from int) (said []match.Said, e api.Errno) {
	x, there := w.items[m.ID]
	if !there {
		return nil, api.ErrMissing
	}
	if m.Kind == msg.Cancel && (x.Seller != from || x.Buyer != me) || m.Kind != msg.Cancel && (x.Seller != me || x.Buyer != from) {
		return nil, api.ErrOther
	}
	if m.Round != x.Round || m.Kind == msg.Cancel && x.State != item.Disputed || m.Kind != msg.Cancel && x.State != item.Proposed {
		return nil, api.ErrState
	}
	x.State = map[int]int{msg.Confirm: item.Agreed, msg.Dispute: item.Disputed, msg.Cancel: item.Cancelled}[m.Kind]
	if x.State == item.Disputed && x.Round == 3 {
		x.State = item.Cancelled
		said = []match.Said{{To: from, Msg: about(msg.Cancel, x)}}
	}
	w.items[m.ID] = x
	return said, api.OK
}

// do does what the chapter tells.
func (w model) do(m api.Msg, from int, far int64) ([]match.Said, api.Errno) {
	byClient := from == match.Client
	switch m.Kind {
	case msg.Issue, msg.Order, msg.Adjust, msg.Withdraw, msg.Due:
		if byClient {
			return w.client(m)
		}
	case msg.Propose:
		if !byClient {
			return w.propose(m, from, far)
		}
	case msg.Confirm, msg.Dispute, msg.Cancel:
		if !byClient {
			return w.answer(m, from)
		}
	}
	return nil, api.ErrKind
}

// desk is the desk that a model is of.
func (w model) desk(far int64) match.Desk {
	b := book.Book{Me: me}
	for _, x := range w.items {
		b.Items = append(b.Items, x)
	}
	for name, amount := range w.orders {
		b.Orders = append(b.Orders, book.Order{ID: name, Amount: amount})
	}
	slices.SortFunc(b.Items, func(x, y api.Item) int { return book.Compare(x.ID, y.ID) })
	slices.SortFunc(b.Orders, func(x, y book.Order) int { return book.Compare(x.ID, y.ID) })
	return match.Desk{Book: b, Far: far}
}

// speech is something that is said, and by whom, at random: mostly such as may be taken.
func speech(r *rand.Rand, d match.Desk) (api.Msg, int) {
	pick := func(list ...int) int { return list[r.Intn(len(list))] }
	odd := func(usual ...int) int { // one time in twenty what is odd
		if r.Intn(20) == 0 {
			return pick(-1, 0, 1, 2, 3, 5, 6, 7, 8)
		}
		return pick(usual...)
	}
	seller := odd(me, 6)
	m := api.Msg{ID: id(seller, odd(1, 2, 3, 4, 5, 6, 7, 8, 9)), Buyer: odd(1, 1, 1, me), Currency: odd(2), Round: odd(0, 1, 2, 3), Cycle: odd(0), Amount: int64(odd(100, 103, 105, 110, 150))}
	x, there := d.Book.Get(m.ID)
	if there {
		m.Buyer, m.Round = odd(x.Buyer), odd(x.Round)
	}
	if seller == me {
		m.Kind = odd(msg.Issue, msg.Adjust, msg.Adjust, msg.Confirm, msg.Dispute, msg.Dispute, msg.Dispute)
		if r.Intn(30) == 0 {
			m.Kind = pick(msg.Withdraw, msg.Due, msg.Due)
		}
	} else if m.Kind = odd(msg.Order, msg.Propose, msg.Propose, msg.Propose); r.Intn(30) == 0 {
		m.Kind = msg.Cancel
	}
	if m.Kind == msg.Propose {
		if m.Buyer = odd(me); there {
			m.Round = odd(x.Round + 1)
		}
	}
	switch {
	case m.Kind >= msg.Propose && m.Kind <= msg.Cancel && seller == me:
		return m, odd(m.Buyer)
	case m.Kind >= msg.Propose && m.Kind <= msg.Cancel:
		return m, odd(seller)
	}
	return m, odd(match.Client)
}

// P14.1 to P14.5: whatever is said the desk does what the chapter's words tell.
func TestDeskIsAsTheWordsTell(t *testing.T) {
	counts, kinds := map[api.Errno]int{}, map[int]int{}
	for seed := range int64(200) {
		r := rand.New(rand.NewSource(seed))
		d := desk(t, me, sold(1, item.MaxRound, item.Disputed)) // no desk comes to that by itself, and so to ErrRound
		d.Far = int64([]int{0, 5, 100}[r.Intn(3)])
		for range 300 {
			m, from := speech(r, d)
			w := modelOf(d)
			said, e := w.do(m, from, d.Far)
			counts[e]++
			if e != api.OK {
				refuses(t, d, m, from, e)
			} else {
				kinds[m.Kind]++
				d = does(t, d, m, from, w.desk(d.Far), said...)
			}
			if t.Failed() {
				t.Fatalf("seed %d", seed)
			}
		}
	}
	for _, e := range []api.Errno{api.OK, api.ErrRange, api.ErrMissing, api.ErrTwice, api.ErrState, api.ErrRound, api.ErrKind, api.ErrOther} {
		if counts[e] < 40 { // else the play says little
			t.Errorf("%v came %d times", e, counts[e])
		}
	}
	for _, kind := range append(byClients(), byNodes()...) {
		if kinds[kind] < 40 {
			t.Errorf("the kind %d was taken %d times", kind, kinds[kind])
		}
	}
}

// pair is two desks that say things to each other; what is said to each comes in order.
type pair struct {
	desks [2]match.Desk
	said  [2][]api.Msg // to each
}

// pairOf are two desks without anything.
func pairOf(t *testing.T) *pair {
	t.Helper()
	return &pair{desks: [2]match.Desk{desk(t, 0), desk(t, 1)}}
}

// do has one of the two do something, and what it says be said.
func (p *pair) do(t *testing.T, i int, m api.Msg, from int) api.Errno {
	t.Helper()
	next, list, e := p.desks[i].Do(m, from)
	p.desks[i] = next
	for _, x := range list {
		if x.To != 1-i {
			t.Fatalf("%d says something to %d", i, x.To)
		}
		p.said[x.To] = append(p.said[x.To], x.Msg)
	}
	return e
}

// hear has one of the two hear the next thing, which it has to take.
func (p *pair) hear(t *testing.T, i int) {
	t.Helper()
	m := p.said[i][0]
	p.said[i] = p.said[i][1:]
	if e := p.do(t, i, m, 1-i); e != api.OK {
		t.Errorf("%d hears %+v: %v", i, m, e)
	}
}

// rest has both hear all.
func (p *pair) rest(t *testing.T) {
	t.Helper()
	for len(p.said[0])+len(p.said[1]) > 0 {
		for i := range 2 {
			if len(p.said[i]) > 0 {
				p.hear(t, i)
			}
		}
	}
}

// state is the state that an item has at one of the two.
func (p *pair) state(i int, name api.ID) int {
	x, _ := p.desks[i].Book.Get(name)
	return x.State
}

// P14.2, P14.4, P14.5: the chapter's example.
func TestTheBuyerHasItAsAgreedThenTheSeller(t *testing.T) {
	p, name := pairOf(t), id(0, 1)
	if e := p.do(t, 1, api.Msg{Kind: msg.Order, ID: name, Amount: 103}, match.Client); e != api.OK {
		t.Fatal(e)
	}
	if e := p.do(t, 0, offers(msg.Issue, name, 1, 0, 100), match.Client); e != api.OK {
		t.Fatal(e)
	}
	if p.state(0, name) != item.Proposed || p.state(1, name) != 0 {
		t.Error("it is issued")
	}
	p.hear(t, 1)
	if p.state(0, name) != item.Proposed || p.state(1, name) != item.Agreed {
		t.Error("it is proposed")
	}
	p.hear(t, 0)
	if p.state(0, name) != item.Agreed || p.state(1, name) != item.Agreed || len(p.said[0])+len(p.said[1]) != 0 {
		t.Error("it is confirmed")
	}
}

// P14.3 to P14.5: an item that isn't taken is adjusted until it is, or given up when there are no more rounds.
func TestAnItemIsAdjusted(t *testing.T) {
	for taken := 0; taken <= item.MaxRound+1; taken++ {
		p, name := pairOf(t), id(0, 1)
		p.do(t, 1, api.Msg{Kind: msg.Order, ID: name, Amount: 103}, match.Client)
		amount := func(round int) int64 {
			if round == taken {
				return 105
			}
			return int64(200 + round)
		}
		p.do(t, 0, offers(msg.Issue, name, 1, 0, amount(0)), match.Client)
		p.rest(t)
		for round := 1; round <= min(taken, item.MaxRound); round++ {
			if e := p.do(t, 0, api.Msg{Kind: msg.Adjust, ID: name, Amount: amount(round)}, match.Client); e != api.OK {
				t.Errorf("Adjust: %v", e)
			}
			p.rest(t)
		}
		want := api.Item{ID: name, Buyer: 1, Amount: amount(min(taken, 3)), Round: min(taken, 3), State: item.Agreed}
		if taken > item.MaxRound {
			want.State = item.Cancelled
		}
		for i := range 2 {
			if x, _ := p.desks[i].Book.Get(name); x != want {
				t.Errorf("taken in the round %d: %d has %+v, want %+v", taken, i, x, want)
			}
		}
	}
}

// P14.1 to P14.5: whatever clients and clocks say, nodes take what the other one says, in its order; what the seller has as agreed the buyer has, too; and when all is heard both have the same.
func TestTwoDesksComeToTheSame(t *testing.T) {
	states := map[int]int{}
	for seed := range int64(60) {
		r := rand.New(rand.NewSource(seed))
		p := pairOf(t)
		for range 400 {
			i := r.Intn(2)
			name := id(r.Intn(2), 1+r.Intn(12))
			m := offers([]int{msg.Issue, msg.Issue, msg.Order, msg.Order, msg.Adjust, msg.Adjust, msg.Withdraw, msg.Due}[r.Intn(8)], name, 1-i, r.Intn(2), int64(100+r.Intn(20)))
			m.Round = r.Intn(4)
			if r.Intn(8) > 0 || m.Kind != msg.Withdraw && m.Kind != msg.Due { // else too few get far
				p.do(t, i, m, match.Client)
			}
			for k := range 2 {
				if len(p.said[k]) > 0 && r.Intn(2) == 0 {
					p.hear(t, k)
				}
			}
			for k := range 2 {
				for _, x := range p.desks[k].Book.Items {
					if y, _ := p.desks[1-k].Book.Get(x.ID); x.Seller == k && x.State == item.Agreed && x != y {
						t.Fatalf("seed %d: %+v is agreed, but not %+v", seed, x, y)
					}
				}
			}
		}
		p.rest(t)
		if !slices.Equal(p.desks[0].Book.Items, p.desks[1].Book.Items) {
			t.Errorf("seed %d: %+v and %+v", seed, p.desks[0].Book.Items, p.desks[1].Book.Items)
		}
		for _, x := range p.desks[0].Book.Items {
			states[x.State]++
			if waits := match.Waits(x.Seller, x); waits != (x.State == item.Disputed) {
				t.Errorf("Waits %+v: %v", x, waits)
			}
		}
	}
	for _, state := range []int{item.Disputed, item.Agreed, item.Cancelled} {
		if states[state] < 20 {
			t.Errorf("%d come to rest in the state %d", states[state], state)
		}
	}
}
