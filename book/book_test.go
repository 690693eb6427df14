package book_test

import (
	"cmp"
	"math"
	"math/rand"
	"reflect"
	"slices"
	"testing"

	"contra/api"
	"contra/book"
	"contra/item"
)

// me is the entity whose books most tests are about.
const me = 3

// id is a name.
func id(seller, number int) api.ID { return api.ID{Seller: seller, Number: number} }

// agreed is an item that is agreed.
func agreed(seller, number, buyer, currency int, amount int64) api.Item {
	return api.Item{ID: id(seller, number), Buyer: buyer, Currency: currency, Amount: amount, State: item.Agreed}
}

// in is the item in another state, with a cycle.
func in(x api.Item, state, cycle int) api.Item {
	x.State, x.Cycle = state, cycle
	return x
}

// empty is an empty book.
func empty(t *testing.T, me int) book.Book {
	t.Helper()
	b, e := book.New(me)
	if e != api.OK {
		t.Fatalf("New %d: %v", me, e)
	}
	return b
}

// put is the book with all these items, which have to be taken.
func put(t *testing.T, b book.Book, list ...api.Item) book.Book {
	t.Helper()
	for _, x := range list {
		var e api.Errno
		if b, e = b.Put(x); e != api.OK {
			t.Fatalf("Put %+v: %v", x, e)
		}
	}
	return b
}

// expect is the book with an amount that is expected, which has to be taken.
func expect(t *testing.T, b book.Book, name api.ID, amount int64) book.Book {
	t.Helper()
	b, e := b.Expect(name, amount)
	if e != api.OK {
		t.Fatalf("Expect %v, %d: %v", name, amount, e)
	}
	return b
}

// mixed is a book of me with items in all states, sold and bought, and with orders.
func mixed(t *testing.T) book.Book {
	t.Helper()
	b := put(t, empty(t, me),
		agreed(me, 5, 1, 0, 70), agreed(6, 2, me, 0, 30), in(agreed(me, 9, 1, 0, 500), item.Proposed, 0), agreed(1, 8, me, 0, 7),
		in(agreed(me, 1, 6, 0, 11), item.Agreed, 4), in(agreed(1, 1, me, 1, 13), item.Agreed, 4), in(agreed(6, 1, me, 0, 900), item.Disputed, 0),
		in(agreed(me, 2, 1, 0, 800), item.Cancelled, 0), in(agreed(1, 3, me, 0, 700), item.Settled, 4), agreed(me, 3, 6, 1, 17), agreed(6, 7, me, 7, 19),
		in(agreed(1, 5, me, 0, 23), item.Agreed, 8))
	b = expect(t, b, id(6, 9), 900)
	b = expect(t, b, id(1, 9), 100)
	return expect(t, b, id(6, 1), 910)
}

// full is a book with as many items and orders as can be: me sells the even numbers to 1, and buys the odd ones from 1.
func full(t *testing.T) book.Book {
	t.Helper()
	b := empty(t, me)
	for i := range book.MaxItems {
		x := agreed(me, i*7919%book.MaxItems+1, 1, 0, api.MaxAmount)
		if i%2 == 1 {
			x.Seller, x.Buyer = 1, me
		}
		b = put(t, b, x)
	}
	for i := range book.MaxOrders {
		b = expect(t, b, id(i%3, i*7919%book.MaxOrders+1), int64(i+1))
	}
	return b
}

// has holds a book's items and orders against those that it should have.
func has(t *testing.T, call string, b book.Book, items []api.Item, orders []book.Order) {
	t.Helper()
	if !slices.Equal(b.Items, items) {
		t.Errorf("%s: items %+v, want %+v", call, b.Items, items)
	}
	if !slices.Equal(b.Orders, orders) {
		t.Errorf("%s: orders %+v, want %+v", call, b.Orders, orders)
	}
	for _, x := range items {
		if y, found := b.Get(x.ID); y != x || !found {
			t.Errorf("%s: Get %v: %+v, %v", call, x.ID, y, found)
		}
	}
	for _, o := range orders {
		if n, found := b.Expected(o.ID); n != o.Amount || !found {
			t.Errorf("%s: Expected %v: %d, %v", call, o.ID, n, found)
		}
	}
}

// same says that two books are the same.
func same(t *testing.T, call string, b, want book.Book) {
	t.Helper()
	if b.Me != want.Me {
		t.Errorf("%s: of %d, not of %d", call, b.Me, want.Me)
	}
	has(t, call, b, want.Items, want.Orders)
}

// copied is the same in memory of its own, whatever Clone does.
func copied(b book.Book) book.Book {
	return book.Book{Me: b.Me, Items: append([]api.Item{}, b.Items...), Orders: append([]book.Order{}, b.Orders...)}
}

// refuses says that an item isn't put, and that the book stands as it is.
func refuses(t *testing.T, b book.Book, x api.Item, want api.Errno) {
	t.Helper()
	before := copied(b)
	c, e := b.Put(x)
	if e != want {
		t.Errorf("Put %+v: %v, want %v", x, e, want)
	}
	same(t, "a refused Put answers", c, before)
	same(t, "a refused Put leaves", b, before)
}

// refusesOrder says that nothing is expected by it, and that the book stands as it is.
func refusesOrder(t *testing.T, b book.Book, name api.ID, amount int64, want api.Errno) {
	t.Helper()
	before := copied(b)
	c, e := b.Expect(name, amount)
	if e != want {
		t.Errorf("Expect %v, %d: %v, want %v", name, amount, e, want)
	}
	same(t, "a refused Expect answers", c, before)
	same(t, "a refused Expect leaves", b, before)
}

// wild are numbers inside and outside what is taken.
func wild() []int {
	return []int{math.MinInt, math.MinInt + 1, -8, -2, -1, 0, 1, 2, 3, 6, 7, 8, 9, 1 << 10, 1 << 20, 1<<20 + 1, math.MaxInt - 1, math.MaxInt}
}

// P10.1
func TestCompareIsBySellerThenByNumber(t *testing.T) {
	var list []api.ID
	for _, seller := range wild() {
		for _, number := range wild() {
			list = append(list, id(seller, number))
		}
	}
	for i, a := range list {
		for j, b := range list {
			if n := book.Compare(a, b); cmp.Compare(n, 0) != cmp.Compare(i, j) {
				t.Errorf("Compare %v, %v: %d", a, b, n)
			}
		}
	}
}

// P10.1
func TestNew(t *testing.T) {
	if book.MaxItems != 1024 || book.MaxOrders != 1024 {
		t.Error("limits are others")
	}
	for _, n := range wild() {
		b, e := book.New(n)
		want := api.OK
		if n < 0 || n > 7 {
			want, n = api.ErrRange, 0
		}
		if e != want || b.Me != n || len(b.Items) != 0 || len(b.Orders) != 0 {
			t.Errorf("New: %+v, %v; want one of %d, %v", b, e, n, want)
		}
		if x, found := b.Get(id(1, 1)); x != (api.Item{}) || found {
			t.Errorf("Get of an empty book: %+v", x)
		}
	}
}

// P10.1
func TestPutKeepsItemsInOrderEachOnce(t *testing.T) {
	b := put(t, empty(t, me), agreed(me, 5, 1, 0, 1), agreed(0, 9, me, 0, 2), agreed(7, 1, me, 0, 3), agreed(me, 4, 1, 0, 4), agreed(me, 6, 7, 0, 5), agreed(0, 1, me, 7, 6), agreed(7, api.MaxNumber, me, 0, 7))
	list := []api.Item{agreed(0, 1, me, 7, 6), agreed(0, 9, me, 0, 2), agreed(me, 4, 1, 0, 4), agreed(me, 5, 1, 0, 1), agreed(me, 6, 7, 0, 5), agreed(7, 1, me, 0, 3), agreed(7, api.MaxNumber, me, 0, 7)}
	has(t, "Put", b, list, nil)
	for i, x := range list {
		// In the place of the one of its name, whatever else is otherwise; also of just that one.
		list = slices.Clone(list)
		for _, y := range []api.Item{in(x, item.Settled, 5), in(x, item.Proposed, 0), x, x} {
			if y.Seller == me {
				y.Buyer = 2
			}
			y.Currency, y.Amount, y.Round = 4, y.Amount+100, 3
			b = put(t, b, y)
			list[i] = y
			has(t, "Put of one that is there", b, list, nil)
		}
	}
}

// P10.1
func TestGetOfWhatIsNotThere(t *testing.T) {
	b := mixed(t)
	for _, seller := range wild() {
		for _, number := range wild() {
			name := id(seller, number)
			there := slices.ContainsFunc(b.Items, func(x api.Item) bool { return x.ID == name })
			if x, found := b.Get(name); found != there || !found && x != (api.Item{}) || found && x.ID != name {
				t.Errorf("Get %v: %+v, %v", name, x, found)
			}
		}
	}
}

// P10.1
func TestPutRefuses(t *testing.T) {
	outside := func(x api.Item) []api.Item {
		var list []api.Item
		for _, change := range []func(x *api.Item){
			func(x *api.Item) { x.Seller = 8 }, func(x *api.Item) { x.Seller = -1 }, func(x *api.Item) { x.Buyer = 8 }, func(x *api.Item) { x.Buyer = -1 },
			func(x *api.Item) { x.Buyer = x.Seller }, func(x *api.Item) { x.Number = 0 }, func(x *api.Item) { x.Number = api.MaxNumber + 1 },
			func(x *api.Item) { x.Currency = 8 }, func(x *api.Item) { x.Amount = 0 }, func(x *api.Item) { x.Amount = api.MaxAmount + 1 },
			func(x *api.Item) { x.Round = item.MaxRound + 1 }, func(x *api.Item) { x.State = 0 }, func(x *api.Item) { x.State = 6 },
			func(x *api.Item) { x.Cycle = -1 }, func(x *api.Item) { x.Cycle = item.MaxCycle + 1 },
		} {
			y := x
			change(&y)
			list = append(list, y)
		}
		return list
	}
	mine, others, new := agreed(me, 5, 1, 0, 70), agreed(4, 5, 1, 0, 70), agreed(me, 2000, 1, 0, 70)
	for _, b := range []book.Book{empty(t, me), mixed(t), full(t)} {
		for _, x := range []api.Item{mine, others, new} {
			for _, y := range outside(x) {
				refuses(t, b, y, api.ErrRange)
			}
			refuses(t, b, in(x, item.Proposed, 1), api.ErrState)
			refuses(t, b, in(x, item.Settled, 0), api.ErrState)
		}
		for seller := range api.MaxEntity {
			for buyer := range api.MaxEntity {
				if seller != me && buyer != me && seller != buyer {
					refuses(t, b, agreed(seller, 5, buyer, 0, 70), api.ErrOther)
				}
			}
		}
	}
}

// P10.1
func TestPutRefusesOneTooMany(t *testing.T) {
	b := full(t)
	if len(b.Items) != book.MaxItems {
		t.Fatalf("%d items", len(b.Items))
	}
	refuses(t, b, agreed(me, 2000, 1, 0, 70), api.ErrFull)
	refuses(t, b, agreed(0, 1, me, 0, 70), api.ErrFull)
	refuses(t, b, agreed(7, api.MaxNumber, me, 0, 70), api.ErrFull)
	for _, x := range []api.Item{b.Items[0], b.Items[500], b.Items[book.MaxItems-1]} {
		x = in(x, item.Settled, 1)
		b = put(t, b, x)
		if y, found := b.Get(x.ID); y != x || !found || len(b.Items) != book.MaxItems {
			t.Errorf("Put of one that is there: %+v, %v, %d items", y, found, len(b.Items))
		}
	}
}

// P10.1
func TestCloneIsTheSameInMemoryOfItsOwn(t *testing.T) {
	for _, b := range []book.Book{empty(t, 0), empty(t, 7), mixed(t), full(t)} {
		c, d := b.Clone(), b.Clone()
		same(t, "Clone", c, b)
		before := copied(b)
		items, orders := c.Items[:cap(c.Items)], c.Orders[:cap(c.Orders)] // their spare room, too
		for i := range items {
			items[i].Amount++
		}
		for i := range orders {
			orders[i].Amount++
		}
		same(t, "behind a change of the clone", b, before)
		same(t, "another clone", d, before)
	}
}

// P10.2
func TestExpect(t *testing.T) {
	b := empty(t, me)
	for _, o := range []book.Order{{ID: id(4, 5), Amount: 1}, {ID: id(0, 9), Amount: api.MaxAmount}, {ID: id(7, api.MaxNumber), Amount: 3}, {ID: id(4, 4), Amount: 4}, {ID: id(0, 1), Amount: 5}, {ID: id(2, 5), Amount: 6}} {
		if n, found := b.Expected(o.ID); n != 0 || found {
			t.Errorf("Expected %v ahead of it: %d, %v", o.ID, n, found)
		}
		b = expect(t, b, o.ID, o.Amount)
	}
	list := []book.Order{{ID: id(0, 1), Amount: 5}, {ID: id(0, 9), Amount: api.MaxAmount}, {ID: id(2, 5), Amount: 6}, {ID: id(4, 4), Amount: 4}, {ID: id(4, 5), Amount: 1}, {ID: id(7, api.MaxNumber), Amount: 3}}
	has(t, "Expect", b, nil, list)
	for i := range list {
		list = slices.Clone(list)
		list[i].Amount = 1000
		b = expect(t, b, list[i].ID, 1000)
		has(t, "Expect in the place of another one", b, nil, list)
		b = expect(t, b, list[i].ID, 1000)
		has(t, "Expect of the same", b, nil, list)
	}
}

// P10.2
func TestExpectRefuses(t *testing.T) {
	for _, b := range []book.Book{empty(t, me), mixed(t), full(t)} {
		for _, seller := range wild() {
			if seller < 0 || seller > 7 || seller == me {
				refusesOrder(t, b, id(seller, 1), 1, api.ErrRange)
			}
		}
		for _, number := range wild() {
			if number < 1 || number > 1048576 {
				refusesOrder(t, b, id(1, number), 1, api.ErrRange)
			}
		}
		for _, amount := range []int64{math.MinInt64, -1, 0, api.MaxAmount + 1, math.MaxInt64} {
			refusesOrder(t, b, id(1, 1), amount, api.ErrRange)
			refusesOrder(t, b, id(1, 9), amount, api.ErrRange)
			refusesOrder(t, b, id(6, 9999), amount, api.ErrRange)
		}
	}
	for _, of := range []int{0, 7} {
		b := empty(t, of)
		refusesOrder(t, b, id(of, 1), 1, api.ErrRange)
		expect(t, b, id(7-of, 1), 1)
	}
}

// P10.2
func TestExpectRefusesOneTooMany(t *testing.T) {
	b := full(t)
	if len(b.Orders) != book.MaxOrders {
		t.Fatalf("%d orders", len(b.Orders))
	}
	for _, name := range []api.ID{id(0, 2000), id(4, 1), id(7, api.MaxNumber), id(2, b.Orders[0].Number)} {
		if _, found := b.Expected(name); !found {
			refusesOrder(t, b, name, 1, api.ErrFull)
		}
	}
	for _, o := range []book.Order{b.Orders[0], b.Orders[500], b.Orders[book.MaxOrders-1]} {
		b = expect(t, b, o.ID, 7777)
		if n, found := b.Expected(o.ID); n != 7777 || !found || len(b.Orders) != book.MaxOrders {
			t.Errorf("Expect of one that is there: %d, %v, %d orders", n, found, len(b.Orders))
		}
	}
}

// P10.2
func TestExpectedOfWhatIsNotThere(t *testing.T) {
	b := mixed(t)
	for _, seller := range wild() {
		for _, number := range wild() {
			name := id(seller, number)
			there := slices.ContainsFunc(b.Orders, func(o book.Order) bool { return o.ID == name })
			if n, found := b.Expected(name); found != there || !found && n != 0 {
				t.Errorf("Expected %v: %d, %v", name, n, found)
			}
		}
	}
}

// opens holds what Open answers against what it should.
func opens(t *testing.T, b book.Book, currency, other int, want int64) {
	t.Helper()
	if n, e := b.Open(currency, other); n != want || e != api.OK {
		t.Errorf("Open %d, %d: %d, %v; want %d", currency, other, n, e, want)
	}
}

// P10.3
func TestOpen(t *testing.T) {
	b := mixed(t)
	for _, all := range []int{-1, -2, math.MinInt} {
		opens(t, b, 0, all, 70-30-7+11-23)
		opens(t, b, 1, all, -13+17)
		opens(t, b, 7, all, -19)
		opens(t, b, 2, all, 0)
	}
	opens(t, b, 0, 1, 70-7-23)
	opens(t, b, 0, 6, -30+11)
	opens(t, b, 1, 1, -13)
	opens(t, b, 1, 6, 17)
	opens(t, b, 7, 6, -19)
	opens(t, b, 7, 1, 0)
	opens(t, b, 0, me, 70-30-7+11-23) // it is party to all of its own
	for _, other := range []int{0, 2, 4, 5, 7, 8, 9, math.MaxInt} {
		opens(t, b, 0, other, 0)
	}
	for _, currency := range []int{math.MinInt, -1, 8, math.MaxInt} {
		opens(t, b, currency, -1, 0)
		opens(t, b, currency, 1, 0)
	}
	opens(t, empty(t, me), 0, -1, 0)
}

// P10.3: the chapter's example.
func TestOpenOfTheExample(t *testing.T) {
	seller, buyer := put(t, empty(t, 1), agreed(1, 5, 2, 0, 70)), put(t, empty(t, 2), agreed(1, 5, 2, 0, 70))
	opens(t, seller, 0, -1, 70)
	opens(t, seller, 0, 2, 70)
	opens(t, seller, 0, 0, 0)
	opens(t, buyer, 0, -1, -70)
	opens(t, buyer, 0, 1, -70)
	opens(t, buyer, 0, 0, 0)
}

// P10.3
func TestOpenOfTheGreatest(t *testing.T) {
	opens(t, full(t), 0, -1, 0)
	sells, buys := empty(t, me), empty(t, me)
	for i := range book.MaxItems {
		sells = put(t, sells, agreed(me, i+1, i%3, 5, api.MaxAmount))
		buys = put(t, buys, agreed(i%3, i+1, me, 5, api.MaxAmount))
	}
	opens(t, sells, 5, -1, book.MaxItems*api.MaxAmount)
	opens(t, buys, 5, -1, -book.MaxItems*api.MaxAmount)
	opens(t, sells, 5, 2, 341*api.MaxAmount)
	opens(t, buys, 5, 0, -342*api.MaxAmount)
}

// lists holds a list of items against the one that it should be.
func lists(t *testing.T, call string, got []api.Item, want ...api.Item) {
	t.Helper()
	if !slices.Equal(got, want) {
		t.Errorf("%s: %+v, want %+v", call, got, want)
	}
}

// P10.4
func TestFree(t *testing.T) {
	b := mixed(t)
	lists(t, "Free 0", b.Free(0), agreed(1, 8, me, 0, 7), agreed(me, 5, 1, 0, 70), agreed(6, 2, me, 0, 30))
	lists(t, "Free 1", b.Free(1), agreed(me, 3, 6, 1, 17))
	lists(t, "Free 7", b.Free(7), agreed(6, 7, me, 7, 19))
	for _, currency := range []int{math.MinInt, -1, 2, 3, 4, 5, 6, 8, math.MaxInt} {
		lists(t, "Free of what is none", b.Free(currency))
	}
	lists(t, "Free of an empty book", empty(t, me).Free(0))
	if n := len(full(t).Free(0)); n != book.MaxItems {
		t.Errorf("%d of a full book", n)
	}
}

// P10.4
func TestLocked(t *testing.T) {
	b := mixed(t)
	lists(t, "Locked 4", b.Locked(4), in(agreed(1, 1, me, 1, 13), item.Agreed, 4), in(agreed(me, 1, 6, 0, 11), item.Agreed, 4))
	lists(t, "Locked 8", b.Locked(8), in(agreed(1, 5, me, 0, 23), item.Agreed, 8))
	for _, cycle := range []int{math.MinInt, -4, -1, 0, 1, 5, item.MaxCycle, item.MaxCycle + 1, math.MaxInt} {
		lists(t, "Locked of what is none", b.Locked(cycle))
	}
	last := put(t, b, in(agreed(me, 5, 1, 0, 70), item.Agreed, item.MaxCycle))
	lists(t, "Locked of the last one", last.Locked(item.MaxCycle), in(agreed(me, 5, 1, 0, 70), item.Agreed, item.MaxCycle))
	lists(t, "Locked 0 of an empty book", empty(t, me).Locked(0))
	lists(t, "Locked 0 of a full book", full(t).Locked(0))
}

// model is a book, as the document's words tell it: in no order.
type model struct {
	items  map[api.ID]api.Item
	orders map[api.ID]int64
}

// names are names in their order.
func names[T any](m map[api.ID]T) []api.ID {
	var list []api.ID
	for seller := range api.MaxEntity {
		for number := range 20 {
			if _, found := m[id(seller, number)]; found {
				list = append(list, id(seller, number))
			}
		}
	}
	return list
}

// list is the model's items and orders, in order.
func (m model) list() ([]api.Item, []book.Order) {
	var items []api.Item
	for _, name := range names(m.items) {
		items = append(items, m.items[name])
	}
	var orders []book.Order
	for _, name := range names(m.orders) {
		orders = append(orders, book.Order{ID: name, Amount: m.orders[name]})
	}
	return items, orders
}

// open is what Open should answer.
func (m model) open(me, currency, other int) int64 {
	var sum int64
	for _, x := range m.items {
		if x.State != item.Agreed || x.Currency != currency {
			continue
		}
		if x.Seller == me && (other < 0 || x.Buyer == other || other == me) {
			sum += x.Amount
		}
		if x.Buyer == me && (other < 0 || x.Seller == other || other == me) {
			sum -= x.Amount
		}
	}
	return sum
}

// random is an item, mostly one that can be.
func random(r *rand.Rand) api.Item {
	x := api.Item{ID: id(r.Intn(8), r.Intn(20)), Buyer: r.Intn(8), Currency: r.Intn(3), Amount: 1 + r.Int63n(100), State: 1 + r.Intn(5)}
	if x.State == item.Settled || x.State == item.Agreed && r.Intn(2) == 0 {
		x.Cycle = 1 + r.Intn(3)
	}
	if r.Intn(3) == 0 {
		x.Seller, x.Buyer = x.Buyer, me
	}
	return x
}

// P10.1, P10.2, P10.3, P10.4
func TestBooksAreAsTheDocumentTells(t *testing.T) {
	for seed := range int64(40) {
		r := rand.New(rand.NewSource(seed))
		b, m := empty(t, me), model{map[api.ID]api.Item{}, map[api.ID]int64{}}
		for range 200 {
			var e, want api.Errno
			if x := random(r); r.Intn(3) > 0 {
				b, e = b.Put(x)
				if want = item.Check(x); want == api.OK && x.Seller != me && x.Buyer != me {
					want = api.ErrOther
				}
				if want == api.OK {
					m.items[x.ID] = x
				}
			} else {
				b, e = b.Expect(x.ID, x.Amount-1)
				if x.Seller == me || x.Number == 0 || x.Amount == 1 {
					want = api.ErrRange
				} else {
					m.orders[x.ID] = x.Amount - 1
				}
			}
			if e != want {
				t.Fatalf("seed %d: %v, want %v", seed, e, want)
			}
		}
		items, orders := m.list()
		has(t, "all", b, items, orders)
		for currency := range 4 {
			for other := -1; other < 9; other++ {
				opens(t, b, currency, other, m.open(me, currency, other))
			}
			free := slices.DeleteFunc(slices.Clone(items), func(x api.Item) bool {
				return x.State != item.Agreed || x.Currency != currency || x.Cycle > 0
			})
			lists(t, "Free", b.Free(currency), free...)
			locked := slices.DeleteFunc(slices.Clone(items), func(x api.Item) bool {
				return x.State != item.Agreed || x.Cycle != currency || x.Cycle == 0
			})
			lists(t, "Locked", b.Locked(currency), locked...)
		}
	}
}

// P1
func TestEveryCallEndsAtAllArguments(t *testing.T) {
	for _, n := range wild() {
		book.New(n)
	}
	for _, b := range []book.Book{{}, empty(t, 0), empty(t, 7), mixed(t), full(t)} {
		for _, n := range wild() {
			b.Free(n)
			b.Locked(n)
			for _, k := range wild() {
				book.Compare(id(n, k), id(k, n))
				b.Get(id(n, k))
				b.Expected(id(n, k))
				b.Open(n, k)
				for _, amount := range []int64{math.MinInt64, 0, 1, api.MaxAmount, math.MaxInt64} {
					b.Expect(id(n, k), amount)
					b.Put(api.Item{ID: id(me, 5), Buyer: n, Currency: k, Amount: amount, State: item.Agreed})
					b.Put(api.Item{ID: id(n, k), Buyer: me, Amount: amount, State: item.Agreed})
					b.Put(api.Item{ID: id(1, 1), Buyer: me, Amount: amount, Round: n, State: 3, Cycle: k})
					b.Put(api.Item{ID: id(1, 1), Buyer: me, Amount: 1, Round: 1, State: n, Cycle: k})
				}
			}
		}
		b.Put(api.Item{})
		b.Expect(api.ID{}, 0)
		b.Clone()
	}
}

// P2: a book stays as it is, whatever is called on it, and on those that it answers.
func TestABookStaysAsItIs(t *testing.T) {
	b := mixed(t)
	before := copied(b)
	var several []book.Book
	for number := 1; number < 12; number++ {
		for _, x := range []api.Item{agreed(me, number, 1, 2, 999), agreed(0, number, me, 2, 999), agreed(7, number, me, 2, 999)} {
			c := put(t, b, x)
			c = expect(t, c, id(4, number), 999)
			c = expect(t, c, id(6, 9), 1)
			several = append(several, c)
			same(t, "behind Put and Expect", b, before)
		}
	}
	for i, c := range several {
		// What one has no other one has.
		number := i/3 + 1
		if n, found := c.Expected(id(4, number)); n != 999 || !found || len(c.Orders) != len(b.Orders)+1 {
			t.Errorf("%d: %d, %v, %d orders", i, n, found, len(c.Orders))
		}
		if n, _ := c.Open(2, -1); n != 999 && n != -999 {
			t.Errorf("%d: %d is open", i, n)
		}
	}
	refuses(t, b, agreed(4, 1, 5, 0, 1), api.ErrOther)
	refusesOrder(t, b, id(me, 1), 1, api.ErrRange)
	same(t, "at the end", b, before)
}

// P2
func TestWhatIsAnsweredIsNewMemory(t *testing.T) {
	b := full(t)
	for i := range 10 {
		b = put(t, b, in(b.Items[i*20], item.Agreed, 6))
	}
	before := copied(b)
	for _, list := range []func() []api.Item{func() []api.Item { return b.Free(0) }, func() []api.Item { return b.Locked(6) }} {
		one, two := list(), list()
		want := slices.Clone(two)
		room := one[:cap(one)]
		for i := range room {
			room[i] = api.Item{ID: id(9, 9), Amount: -1}
		}
		lists(t, "another answer", two, want...)
		lists(t, "an answer behind it", list(), want...)
		same(t, "behind a change of what was answered", b, before)
	}
}

// P2
func TestAnswersHangOnTheBookAlone(t *testing.T) {
	a, b := mixed(t), empty(t, me)
	for i := len(a.Items); i > 0; i-- { // another way to the same
		b = put(t, b, in(a.Items[i-1], item.Agreed, 99), a.Items[i-1])
	}
	for i := len(a.Orders); i > 0; i-- {
		b = expect(t, b, a.Orders[i-1].ID, 1)
		b = expect(t, b, a.Orders[i-1].ID, a.Orders[i-1].Amount)
	}
	same(t, "another way", b, a)
	for n := -1; n < 10; n++ {
		lists(t, "Free", b.Free(n), a.Free(n)...)
		lists(t, "Locked", b.Locked(n), a.Locked(n)...)
		want, _ := a.Open(0, n)
		opens(t, b, 0, n, want)
	}
	if !reflect.DeepEqual(a.Clone(), b.Clone()) {
		t.Error("the same books have other clones")
	}
}
