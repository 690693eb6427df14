package match_test

import (
	"math"
	"reflect"
	"slices"
	"testing"

	"contra/api"
	"contra/book"
	"contra/item"
	"contra/match"
	"contra/msg"
)

// me is the entity whose desk most tests are about; far is how far its amounts may be apart.
const (
	me  = 3
	far = 5
)

// id is a name.
func id(seller, number int) api.ID { return api.ID{Seller: seller, Number: number} }

// sold is an item that me sells to 1, of the currency 2.
func sold(number, round, state int) api.Item {
	return api.Item{ID: id(me, number), Buyer: 1, Currency: 2, Amount: 100, Round: round, State: state}
}

// bought is an item that me buys from 6, of the currency 2.
func bought(number, round, state int) api.Item {
	return api.Item{ID: id(6, number), Buyer: me, Currency: 2, Amount: 100, Round: round, State: state}
}

// in is the item with a cycle.
func in(x api.Item, cycle int) api.Item {
	x.Cycle = cycle
	return x
}

// about is a message about an item, as the chapter of layer 11 tells it.
func about(kind int, x api.Item) api.Msg {
	return api.Msg{Kind: kind, ID: x.ID, Buyer: x.Buyer, Currency: x.Currency, Round: x.Round, Amount: x.Amount}
}

// named is a message with a name and a round alone.
func named(kind int, name api.ID, round int) api.Msg {
	return api.Msg{Kind: kind, ID: name, Round: round}
}

// offers is a message with an item's name, buyer, currency and amount, all else being what nobody asks for.
func offers(kind int, name api.ID, buyer, currency int, amount int64) api.Msg {
	return api.Msg{Kind: kind, ID: name, Buyer: buyer, Currency: currency, Amount: amount}
}

// desk is a desk of an entity with these items.
func desk(t *testing.T, of int, list ...api.Item) match.Desk {
	t.Helper()
	b, e := book.New(of)
	if e != api.OK {
		t.Fatalf("New %d: %v", of, e)
	}
	for _, x := range list {
		if b, e = b.Put(x); e != api.OK {
			t.Fatalf("Put %+v: %v", x, e)
		}
	}
	return match.Desk{Book: b, Far: far}
}

// expecting is the desk with an amount that is expected.
func expecting(t *testing.T, d match.Desk, name api.ID, amount int64) match.Desk {
	t.Helper()
	b, e := d.Book.Expect(name, amount)
	if e != api.OK {
		t.Fatalf("Expect %v, %d: %v", name, amount, e)
	}
	d.Book = b
	return d
}

// full is a desk with as many items and orders as can be, all items being ones that it sells to 1, agreed.
func full(t *testing.T) match.Desk {
	t.Helper()
	d := desk(t, me)
	for n := 1; n <= book.MaxItems; n++ {
		d.Book.Items = append(d.Book.Items, sold(n, 0, item.Agreed))
	}
	for n := 1; n <= book.MaxOrders; n++ {
		d.Book.Orders = append(d.Book.Orders, book.Order{ID: id(6, n), Amount: 100})
	}
	return d
}

// all has an item in each state and round, sold (the number is 10 times the round, and the state) and bought (likewise), and two that a cycle has.
func all(t *testing.T) match.Desk {
	t.Helper()
	d := desk(t, me)
	for round := 0; round <= item.MaxRound; round++ {
		for state := item.Proposed; state <= item.Settled; state++ {
			cycle := 0
			if state == item.Settled {
				cycle = 4
			}
			d = with(t, d, in(sold(10*round+state, round, state), cycle))
			d = with(t, d, in(bought(10*round+state, round, state), cycle))
		}
	}
	return with(t, with(t, d, in(sold(90, 1, item.Agreed), 7)), in(bought(90, 1, item.Agreed), 7))
}

// with is the desk with an item.
func with(t *testing.T, d match.Desk, x api.Item) match.Desk {
	t.Helper()
	b, e := d.Book.Put(x)
	if e != api.OK {
		t.Fatalf("Put %+v: %v", x, e)
	}
	d.Book = b
	return d
}

// copied is the same desk in memory of its own, whatever Clone does.
func copied(d match.Desk) match.Desk {
	d.Book = book.Book{Me: d.Book.Me, Items: append([]api.Item{}, d.Book.Items...), Orders: append([]book.Order{}, d.Book.Orders...)}
	return d
}

// same says that a desk is just as it should be.
func same(t *testing.T, call string, d, want match.Desk) {
	t.Helper()
	if !reflect.DeepEqual(copied(d), copied(want)) {
		t.Errorf("%s: %+v, want %+v", call, d, want)
	}
}

// does says what Do answers where it is taken: the desk behind it, and what is said, in order.
func does(t *testing.T, d match.Desk, m api.Msg, from int, want match.Desk, said ...match.Said) match.Desk {
	t.Helper()
	before := copied(d)
	next, list, e := d.Do(m, from)
	if e != api.OK {
		t.Errorf("Do %+v from %d: %v", m, from, e)
	}
	same(t, "behind Do", next, want)
	if !slices.EqualFunc(list, said, func(a, b match.Said) bool { return reflect.DeepEqual(a, b) }) {
		t.Errorf("Do %+v from %d says %+v, want %+v", m, from, list, said)
	}
	same(t, "the desk that Do was called on", d, before)
	return next
}

// refuses says with which error Do answers, and that nothing is otherwise then.
func refuses(t *testing.T, d match.Desk, m api.Msg, from int, want api.Errno) {
	t.Helper()
	before := copied(d)
	next, list, e := d.Do(m, from)
	if e != want || len(list) != 0 {
		t.Errorf("Do %+v from %d: says %+v, %v; want %v", m, from, list, e, want)
	}
	same(t, "beside an error of Do", next, before)
	same(t, "behind a refused Do", d, before)
}

// wild are numbers inside and outside what is taken.
func wild() []int {
	return []int{math.MinInt, math.MinInt + 1, -2, -1, 0, 1, 2, 3, 4, 6, 7, 8, 9, 16, 17, 1 << 20, 1<<20 + 1, math.MaxInt - 1, math.MaxInt}
}

// byClients are the kinds that clients and clocks say; byNodes those that nodes say.
func byClients() []int { return []int{msg.Issue, msg.Order, msg.Adjust, msg.Withdraw, msg.Due} }
func byNodes() []int   { return []int{msg.Propose, msg.Confirm, msg.Dispute, msg.Cancel} }

// P14.1: a message that somebody else could say, and that would be taken then, is of the wrong kind.
func TestWhoSaysWhat(t *testing.T) {
	if match.Client != -1 {
		t.Errorf("Client is %d", match.Client)
	}
	d := expecting(t, all(t), id(6, 99), 100)
	for _, kind := range append(wild(), 5, 10, 11, 12, 13, 14, 15) {
		for _, x := range []api.Item{sold(2, 0, item.Disputed), bought(2, 0, item.Disputed), sold(1, 0, item.Proposed), sold(99, 0, 0), bought(99, 0, 0), {}} {
			m := about(kind, x)
			for _, from := range wild() {
				right := slices.Contains(byNodes(), kind)
				if from == match.Client {
					right = slices.Contains(byClients(), kind)
				}
				if !right {
					refuses(t, d, m, from, api.ErrKind)
				} else if _, _, e := d.Do(m, from); e == api.ErrKind {
					t.Errorf("Do %+v from %d: %v", m, from, e)
				}
			}
		}
	}
}

// P14.2
func TestIssue(t *testing.T) {
	d := desk(t, me, sold(5, 2, item.Disputed), bought(7, 0, item.Agreed))
	for _, c := range []struct {
		number, buyer, currency int
		amount                  int64
	}{{1, 0, 0, 1}, {7, 1, 2, 500}, {4, 7, 7, api.MaxAmount}, {api.MaxNumber, 4, 3, 99}} {
		x := api.Item{ID: id(me, c.number), Buyer: c.buyer, Currency: c.currency, Amount: c.amount, State: item.Proposed}
		m := offers(msg.Issue, x.ID, c.buyer, c.currency, c.amount)
		want := with(t, d, x)
		said := match.Said{To: c.buyer, Msg: about(msg.Propose, x)}
		does(t, d, m, match.Client, want, said)
		m.Round, m.Cycle, m.Yes, m.Lines, m.Nets = 3, 9, true, make([]api.Line, 2), make([]int64, 3) // what the kind hasn't counts for nothing
		next := does(t, d, m, match.Client, want, said)
		refuses(t, next, m, match.Client, api.ErrTwice)
	}
}

// P14.2
func TestIssueRefuses(t *testing.T) {
	d := all(t)
	for _, seller := range wild() {
		if seller == me {
			continue
		}
		for _, number := range []int{1, 2, 99, 0, -1} { // ahead of all that would be refused otherwise
			refuses(t, d, offers(msg.Issue, id(seller, number), 1, 2, 100), match.Client, api.ErrOther)
			refuses(t, d, offers(msg.Issue, id(seller, number), 9, 8, 0), match.Client, api.ErrOther)
		}
	}
	for _, x := range d.Book.Items {
		if x.Seller == me {
			refuses(t, d, offers(msg.Issue, x.ID, 1, 2, 100), match.Client, api.ErrTwice)
			refuses(t, d, offers(msg.Issue, x.ID, 8, 8, 0), match.Client, api.ErrTwice)
		}
	}
	for _, d := range []match.Desk{d, full(t)} { // New's error comes ahead of Put's
		for _, n := range []int{math.MinInt, -1, 8, math.MaxInt} {
			refuses(t, d, offers(msg.Issue, id(me, 2000), n, 2, 100), match.Client, api.ErrRange)
			refuses(t, d, offers(msg.Issue, id(me, 2000), 1, n, 100), match.Client, api.ErrRange)
		}
		refuses(t, d, offers(msg.Issue, id(me, 2000), me, 2, 100), match.Client, api.ErrRange)
		for _, n := range []int{math.MinInt, -1, 0, api.MaxNumber + 1, math.MaxInt} {
			refuses(t, d, offers(msg.Issue, id(me, n), 1, 2, 100), match.Client, api.ErrRange)
		}
		for _, n := range []int64{math.MinInt64, -1, 0, api.MaxAmount + 1, math.MaxInt64} {
			refuses(t, d, offers(msg.Issue, id(me, 2000), 1, 2, n), match.Client, api.ErrRange)
		}
	}
	refuses(t, full(t), offers(msg.Issue, id(me, 2000), 1, 2, 100), match.Client, api.ErrFull)
	refuses(t, full(t), offers(msg.Issue, id(me, 20), 1, 2, 100), match.Client, api.ErrTwice)
}

// P14.2
func TestOrder(t *testing.T) {
	d := all(t)
	for _, name := range []api.ID{id(6, 2), id(6, 99), id(0, 1), id(7, api.MaxNumber)} {
		for _, amount := range []int64{1, 100, api.MaxAmount} {
			m := api.Msg{Kind: msg.Order, ID: name, Amount: amount}
			want := expecting(t, d, name, amount)
			does(t, d, m, match.Client, want)
			m.Buyer, m.Currency, m.Round, m.Cycle = 99, -1, 77, -5
			d = does(t, d, m, match.Client, want)
		}
	}
	for _, m := range []api.Msg{
		{ID: id(me, 5), Amount: 1}, {ID: id(-1, 5), Amount: 1}, {ID: id(8, 5), Amount: 1}, {ID: id(1, 0), Amount: 1}, {ID: id(1, api.MaxNumber+1), Amount: 1},
		{ID: id(1, 5)}, {ID: id(1, 5), Amount: -1}, {ID: id(1, 5), Amount: api.MaxAmount + 1},
	} {
		m.Kind = msg.Order
		refuses(t, d, m, match.Client, api.ErrRange)
		refuses(t, full(t), m, match.Client, api.ErrRange)
	}
	refuses(t, full(t), api.Msg{Kind: msg.Order, ID: id(6, 2000), Amount: 1}, match.Client, api.ErrFull)
	does(t, full(t), api.Msg{Kind: msg.Order, ID: id(6, 20), Amount: 1}, match.Client, expecting(t, full(t), id(6, 20), 1))
}

// P14.3
func TestAdjust(t *testing.T) {
	d := all(t)
	for round := 0; round < item.MaxRound; round++ {
		for _, amount := range []int64{1, 100, 101, api.MaxAmount} {
			x := sold(10*round+item.Disputed, round+1, item.Proposed)
			x.Amount = amount
			m := api.Msg{Kind: msg.Adjust, ID: x.ID, Amount: amount}
			want, said := with(t, d, x), match.Said{To: 1, Msg: about(msg.Propose, x)}
			does(t, d, m, match.Client, want, said)
			m.Round, m.Buyer, m.Currency, m.Cycle = 3, 5, 5, 5 // neither the round nor anything else is asked for
			does(t, d, m, match.Client, want, said)
		}
		for _, amount := range []int64{math.MinInt64, -1, 0, api.MaxAmount + 1, math.MaxInt64} {
			refuses(t, d, api.Msg{Kind: msg.Adjust, ID: id(me, 10*round+item.Disputed), Amount: amount}, match.Client, api.ErrRange)
		}
	}
	last := id(me, 10*item.MaxRound+item.Disputed)
	refuses(t, d, api.Msg{Kind: msg.Adjust, ID: last, Amount: 100}, match.Client, api.ErrRound)
	refuses(t, d, api.Msg{Kind: msg.Adjust, ID: last}, match.Client, api.ErrRange)
	for _, x := range d.Book.Items {
		if x.Seller == me && x.State != item.Disputed {
			refuses(t, d, api.Msg{Kind: msg.Adjust, ID: x.ID, Amount: 100}, match.Client, api.ErrState)
			refuses(t, d, api.Msg{Kind: msg.Adjust, ID: x.ID}, match.Client, api.ErrState)
		}
	}
}

// P14.3
func TestWithdrawAndDue(t *testing.T) {
	d := all(t)
	for _, x := range d.Book.Items {
		if x.Seller != me {
			continue
		}
		for round := -1; round <= item.MaxRound+1; round++ {
			y := x
			y.State = item.Cancelled
			for _, kind := range []int{msg.Withdraw, msg.Due} {
				m := named(kind, x.ID, round)
				m.Buyer, m.Currency, m.Amount = 5, 5, -5
				switch {
				case x.State != item.Disputed || kind == msg.Due && round != x.Round:
					refuses(t, d, m, match.Client, api.ErrState)
				default:
					does(t, d, m, match.Client, with(t, d, y), match.Said{To: 1, Msg: about(msg.Cancel, y)})
				}
			}
		}
	}
}

// P14.3
func TestWhatTheEntityDoesNotSell(t *testing.T) {
	d := all(t)
	for _, kind := range []int{msg.Adjust, msg.Withdraw, msg.Due} {
		for _, x := range d.Book.Items {
			if x.Seller == me {
				continue
			}
			for round := -1; round <= item.MaxRound+1; round++ { // ahead of the round and of the state
				refuses(t, d, api.Msg{Kind: kind, ID: x.ID, Amount: 100, Round: round}, match.Client, api.ErrOther)
			}
		}
		for _, seller := range wild() {
			for _, number := range []int{math.MinInt, -1, 0, 99, 2000, api.MaxNumber, api.MaxNumber + 1, math.MaxInt} {
				refuses(t, d, api.Msg{Kind: kind, ID: id(seller, number), Amount: 100}, match.Client, api.ErrMissing)
			}
		}
		refuses(t, match.Desk{}, api.Msg{Kind: kind, ID: id(0, 1), Amount: 100}, match.Client, api.ErrMissing)
	}
}

// proposed is Propose about an item that 6 sells to me.
func proposed(number, round int, amount int64) api.Msg {
	return api.Msg{Kind: msg.Propose, ID: id(6, number), Buyer: me, Currency: 2, Round: round, Amount: amount}
}

// P14.4
func TestProposeOfOneThatIsNew(t *testing.T) {
	for _, c := range []struct {
		expected, amount, far int64
		state                 int
	}{
		{100, 100, 5, item.Agreed}, {100, 105, 5, item.Agreed}, {100, 95, 5, item.Agreed}, {100, 106, 5, item.Disputed}, {100, 94, 5, item.Disputed},
		{100, 100, 0, item.Agreed}, {100, 101, 0, item.Disputed}, {100, 99, 0, item.Disputed}, {1, api.MaxAmount, math.MaxInt64, item.Agreed},
		{1, api.MaxAmount, api.MaxAmount - 1, item.Agreed}, {api.MaxAmount, 1, api.MaxAmount - 2, item.Disputed}, {0, 100, math.MaxInt64, item.Disputed}, {0, 1, 5, item.Disputed},
	} {
		d := desk(t, me, sold(7, 1, item.Disputed), bought(8, 2, item.Agreed))
		if c.expected != 0 {
			d = expecting(t, d, id(6, 7), c.expected)
		}
		d = expecting(t, d, id(6, 6), c.amount) // what is expected for others counts for nothing
		d = expecting(t, d, id(5, 7), c.amount)
		d.Far = c.far
		x := api.Item{ID: id(6, 7), Buyer: me, Currency: 2, Amount: c.amount, State: c.state}
		kind := msg.Confirm
		if c.state == item.Disputed {
			kind = msg.Dispute
		}
		m := proposed(7, 0, c.amount)
		want, said := with(t, d, x), match.Said{To: 6, Msg: about(kind, x)}
		does(t, d, m, 6, want, said)
		m.Cycle, m.Yes, m.Lines, m.Nets = 9, true, make([]api.Line, 2), make([]int64, 3)
		does(t, d, m, 6, want, said)
	}
}

// P14.4: one that is there is proposed once more in the round behind its own, if it is disputed; its amount may be another one.
func TestProposeOfOneThatIsThere(t *testing.T) {
	d := all(t)
	for _, old := range d.Book.Items {
		if old.Seller != 6 {
			continue
		}
		for round := 0; round <= item.MaxRound; round++ {
			for currency := range api.MaxCurrency {
				for _, expected := range []int64{0, 120} {
					d := d
					x := api.Item{ID: old.ID, Buyer: me, Currency: currency, Amount: 118, Round: round, State: item.Disputed}
					kind := msg.Dispute
					if expected != 0 {
						d, x.State, kind = expecting(t, d, x.ID, expected), item.Agreed, msg.Confirm
					}
					if m := about(msg.Propose, x); old.State == item.Disputed && round == old.Round+1 && currency == old.Currency {
						does(t, d, m, 6, with(t, d, x), match.Said{To: 6, Msg: about(kind, x)})
					} else {
						refuses(t, d, m, 6, api.ErrState)
					}
				}
			}
		}
	}
}

// P14.4
func TestProposeRefusesWhatIsNoItem(t *testing.T) {
	good := proposed(99, 0, 100)
	for _, d := range []match.Desk{all(t), full(t), expecting(t, desk(t, me), id(6, 99), 100)} {
		for _, change := range []func(m *api.Msg, n int){
			func(m *api.Msg, n int) { m.Seller = n }, func(m *api.Msg, n int) { m.Buyer = n }, func(m *api.Msg, n int) { m.Currency = n },
		} {
			for _, n := range []int{math.MinInt, -1, 8, 1 << 30, math.MaxInt} {
				m := good
				change(&m, n)
				for _, from := range []int{6, n, 0} {
					if from != match.Client {
						refuses(t, d, m, from, api.ErrRange)
					}
				}
			}
		}
		for _, m := range []api.Msg{proposed(0, 0, 100), proposed(-1, 0, 100), proposed(api.MaxNumber+1, 0, 100), proposed(99, -1, 100), proposed(99, 4, 100), proposed(99, 0, 0), proposed(99, 0, -1), proposed(99, 0, api.MaxAmount+1), {Kind: msg.Propose}} {
			refuses(t, d, m, 6, api.ErrRange)
			refuses(t, d, m, 0, api.ErrRange)
		}
		good := good
		good.Seller = me // of one party
		refuses(t, d, good, me, api.ErrRange)
	}
}

// P14.4
func TestProposeRefusesWhoHasNoPartInIt(t *testing.T) {
	d := expecting(t, all(t), id(6, 99), 100)
	for _, m := range []api.Msg{proposed(99, 0, 100), proposed(99, 1, 100), proposed(1, 0, 100), proposed(2, 1, 100)} { // ahead of the state
		for _, from := range wild() {
			if from != 6 && from != match.Client {
				refuses(t, d, m, from, api.ErrOther)
			}
		}
		for _, buyer := range []int{0, 1, 2, 4, 5, 7} {
			m.Buyer = buyer
			refuses(t, d, m, 6, api.ErrOther)
		}
	}
	m := about(msg.Propose, sold(99, 0, item.Proposed)) // what the entity itself sells
	for _, from := range []int{me, 1, 6} {
		refuses(t, d, m, from, api.ErrOther)
	}
	refuses(t, full(t), proposed(99, 0, 100), 5, api.ErrOther)
}

// P14.4
func TestProposeRefusesALaterRoundOfWhatIsNotThere(t *testing.T) {
	for _, d := range []match.Desk{desk(t, me), all(t), full(t)} {
		for round := 1; round <= item.MaxRound; round++ {
			refuses(t, expecting(t, d, id(6, 99), 100), proposed(99, round, 100), 6, api.ErrState)
		}
	}
	refuses(t, full(t), proposed(99, 0, 100), 6, api.ErrFull) // expected
	refuses(t, full(t), proposed(2000, 0, 100), 6, api.ErrFull)
}

// P14.5
func TestConfirmAndDispute(t *testing.T) {
	d := all(t)
	for _, x := range d.Book.Items {
		if x.Seller != me {
			continue
		}
		for round := -1; round <= item.MaxRound+1; round++ {
			yes, no := named(msg.Confirm, x.ID, round), named(msg.Dispute, x.ID, round)
			yes.Buyer, yes.Currency, yes.Amount, yes.Cycle = 5, 5, -5, 9 // the name and the round alone are asked for
			no.Buyer, no.Currency, no.Amount, no.Cycle = 5, 5, -5, 9
			if x.State != item.Proposed || round != x.Round {
				refuses(t, d, yes, 1, api.ErrState)
				refuses(t, d, no, 1, api.ErrState)
				continue
			}
			y, z := x, x
			y.State, z.State = item.Agreed, item.Disputed
			does(t, d, yes, 1, with(t, d, y))
			if round < item.MaxRound {
				does(t, d, no, 1, with(t, d, z))
			} else {
				z.State = item.Cancelled
				does(t, d, no, 1, with(t, d, z), match.Said{To: 1, Msg: about(msg.Cancel, z)})
			}
		}
	}
}

// P14.5
func TestCancel(t *testing.T) {
	d := all(t)
	for _, x := range d.Book.Items {
		if x.Seller != 6 {
			continue
		}
		for round := -1; round <= item.MaxRound+1; round++ {
			m := named(msg.Cancel, x.ID, round)
			m.Buyer, m.Currency, m.Amount, m.Cycle = 5, 5, -5, 9
			if x.State != item.Disputed || round != x.Round {
				refuses(t, d, m, 6, api.ErrState)
				continue
			}
			y := x
			y.State = item.Cancelled
			does(t, d, m, 6, with(t, d, y))
		}
	}
}

// P14.5
func TestAnswersOfOthers(t *testing.T) {
	d := all(t)
	for _, kind := range []int{msg.Confirm, msg.Dispute, msg.Cancel} {
		for _, x := range d.Book.Items {
			for _, from := range append(wild(), 5) {
				right := x.Seller == me && from == 1
				if kind == msg.Cancel {
					right = x.Seller == 6 && from == 6
				}
				if right || from == match.Client {
					continue
				}
				for round := -1; round <= item.MaxRound+1; round++ { // ahead of the round and of the state
					refuses(t, d, named(kind, x.ID, round), from, api.ErrOther)
				}
			}
		}
		for _, seller := range wild() {
			for _, number := range []int{math.MinInt, -1, 0, 99, 2000, api.MaxNumber, api.MaxNumber + 1, math.MaxInt} {
				for _, from := range []int{1, 6, 99, -2} {
					refuses(t, d, named(kind, id(seller, number), 0), from, api.ErrMissing)
				}
			}
		}
	}
}

// P14.5
func TestWaits(t *testing.T) {
	for _, seller := range wild() {
		for _, who := range wild() {
			for state := -1; state <= item.Settled+1; state++ {
				for _, buyer := range []int{0, 3, who} {
					x := api.Item{ID: id(seller, 1), Buyer: buyer, Amount: 5, State: state, Round: state}
					if got := match.Waits(who, x); got != (who == seller && state == item.Disputed) {
						t.Errorf("Waits %d, %+v: %v", who, x, got)
					}
				}
			}
		}
	}
}

// P1
func TestEveryCallEndsAtAllArguments(t *testing.T) {
	desks := []match.Desk{{}, {Far: -1}, {Far: math.MinInt64}, {Far: math.MaxInt64}, all(t), full(t)}
	for _, d := range desks {
		before := copied(d)
		for _, kind := range append(wild(), 5, 10, 11, 12, 13, 14, 15) {
			for _, n := range wild() {
				for _, from := range wild() {
					for _, m := range []api.Msg{{}, named(0, id(n, n), n), named(0, id(6, 12), n), named(0, id(me, 12), n), {Cycle: n, Amount: math.MinInt64, Lines: make([]api.Line, 3), Nets: make([]int64, 20)}} {
						m.Kind = kind
						d.Do(m, from)
					}
				}
			}
		}
		same(t, "at the end", d, before)
	}
}

// P2: what is handed in is neither changed nor kept, nor is what one desk has found in another one.
func TestDesksStayAsTheyAre(t *testing.T) {
	d := expecting(t, all(t), id(6, 99), 100)
	d.Book.Items, d.Book.Orders = slices.Grow(d.Book.Items, 20), slices.Grow(d.Book.Orders, 20) // room in which something could be put
	before := copied(d)
	m := proposed(99, 0, 100)
	m.Lines, m.Nets = []api.Line{{Buyer: 7}}, []int64{7}
	one, said, _ := d.Do(m, 6)
	two, _, _ := d.Do(offers(msg.Issue, id(me, 200), 1, 0, 5), match.Client)
	three, _, _ := d.Do(api.Msg{Kind: msg.Order, ID: id(6, 200), Amount: 5}, match.Client)
	same(t, "behind all", d, before)
	same(t, "one", one, with(t, before, bought(99, 0, item.Agreed)))
	same(t, "two", two, with(t, before, api.Item{ID: id(me, 200), Buyer: 1, Amount: 5, State: item.Proposed}))
	same(t, "three", three, expecting(t, before, id(6, 200), 5))
	if m.Lines[0].Buyer != 7 || m.Nets[0] != 7 || said[0].Msg.Lines != nil || said[0].Msg.Nets != nil {
		t.Error("the lists of a message are changed or kept")
	}
	_, again, _ := d.Do(m, 6)
	said[0].To = 99
	if again[0].To != 6 {
		t.Error("two answers share memory")
	}
}
