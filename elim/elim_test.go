package elim_test

import (
	"math"
	"math/rand"
	"slices"
	"testing"

	"contra/api"
	"contra/book"
	"contra/elim"
	"contra/item"
	"contra/vector"
)

// agreed is an item that is agreed.
func agreed(seller, number, buyer, currency int, amount int64) api.Item {
	return api.Item{ID: api.ID{Seller: seller, Number: number}, Buyer: buyer, Currency: currency, Amount: amount, State: item.Agreed}
}

// in is the item in another state, with a cycle.
func in(x api.Item, state, cycle int) api.Item {
	x.State, x.Cycle = state, cycle
	return x
}

// of is an entity's book with these items, which have to be taken.
func of(t *testing.T, me int, list ...api.Item) book.Book {
	t.Helper()
	b, e := book.New(me)
	for _, x := range list {
		if e == api.OK {
			b, e = b.Put(x)
		}
	}
	if e != api.OK {
		t.Fatalf("a book of %d with %+v: %v", me, list, e)
	}
	return b
}

// byHand is a book with items of these amounts, sold by 0 to 1, of which nobody has asked whether they can be.
func byHand(me int, amounts ...int64) book.Book {
	b := book.Book{Me: me}
	for i, amount := range amounts {
		b.Items = append(b.Items, agreed(0, i+1, 1, 0, amount))
	}
	return b
}

// whole is a book with as many items as can be, each of the greatest amount, of one seller and one buyer.
func whole(t *testing.T, me, seller, buyer int) book.Book {
	t.Helper()
	var list []api.Item
	for i := range book.MaxItems {
		list = append(list, agreed(seller, i+1, buyer, 0, api.MaxAmount))
	}
	return of(t, me, list...)
}

// wild are numbers inside and outside what is taken.
func wild() []int {
	return []int{math.MinInt, math.MinInt + 1, -8, -2, -1, 0, 1, 2, 3, 6, 7, 8, 9, 1 << 10, math.MaxInt - 1, math.MaxInt}
}

// looks says what Look has to answer.
func looks(t *testing.T, seller, buyer book.Book, currency int, want elim.Pair) {
	t.Helper()
	if p, e := elim.Look(seller, buyer, currency); p != want || e != api.OK {
		t.Errorf("Look, in %d: %+v, %v; want %+v", currency, p, e, want)
	}
}

// overflows says that Look answers ErrSum, and the zero Pair.
func overflows(t *testing.T, seller, buyer book.Book) {
	t.Helper()
	if p, e := elim.Look(seller, buyer, 0); p != (elim.Pair{}) || e != api.ErrSum {
		t.Errorf("Look: %+v, %v", p, e)
	}
}

// positions are amounts by entity, in a currency; what is 0 isn't there.
func positions(currency int, amounts []int64) []vector.Position {
	var list []vector.Position
	for entity, amount := range amounts {
		if amount != 0 {
			list = append(list, vector.Position{Entity: entity, Currency: currency, Amount: amount})
		}
	}
	return list
}

// groups says what Group has to answer, by entity.
func groups(t *testing.T, currency int, books []book.Book, want ...int64) {
	t.Helper()
	v, e := elim.Group(currency, books...)
	if list := positions(currency, want); e != api.OK || !slices.Equal(v.List(), list) {
		t.Errorf("Group %d: %+v, %v; want %+v", currency, v.List(), e, list)
	}
}

// refuses says with which error Group has to answer.
func refuses(t *testing.T, currency int, want api.Errno, books ...book.Book) {
	t.Helper()
	if v, e := elim.Group(currency, books...); e != want || len(v.List()) != 0 {
		t.Errorf("Group %d: %+v, %v; want %v", currency, v.List(), e, want)
	}
}

// even says what Even has to answer, whichever book is the first one, and the other way round.
func even(t *testing.T, want bool, currency int, books ...book.Book) {
	t.Helper()
	for i := range max(1, len(books)) {
		turned := slices.Concat(books[i:], books[:i])
		if elim.Even(currency, turned...) != want {
			t.Errorf("Even %d from the book %d on: %v", currency, i, !want)
		}
		slices.Reverse(turned)
		if elim.Even(currency, turned...) != want {
			t.Errorf("Even %d from the book %d on, turned: %v", currency, i, !want)
		}
	}
}

// P15.1 to P15.3: the chapter's example.
func TestTheExample(t *testing.T) {
	x := agreed(0, 1, 1, 0, 70)
	seller, buyer := of(t, 0, x), of(t, 1, x)
	looks(t, seller, buyer, 0, elim.Pair{Seller: 0, Buyer: 1, Had: 70, Paid: 70, Alike: true})
	looks(t, buyer, seller, 0, elim.Pair{Seller: 1, Buyer: 0, Alike: true})
	groups(t, 0, []book.Book{seller, buyer}, 70, -70)
	v, _ := elim.Group(0, seller, buyer)
	if n, e := v.Total(0); n != 0 || e != api.OK {
		t.Errorf("together %d, %v", n, e)
	}
	even(t, true, 0, seller, buyer)
}

// two are the books of 3, which sells, and of 5, which buys; what they have of each other in 2 is the same, all else isn't.
func two(t *testing.T) (book.Book, book.Book) {
	t.Helper()
	seller := of(t, 3,
		agreed(3, 1, 5, 2, 70), in(agreed(3, 4, 5, 2, 8), item.Agreed, 9), agreed(3, 7, 5, 2, 500),
		agreed(3, 2, 5, 1, 1000), agreed(3, 3, 6, 2, 2000), agreed(5, 1, 3, 2, 3000), agreed(6, 1, 3, 2, 4000),
		in(agreed(3, 10, 5, 2, 1), item.Proposed, 0), in(agreed(3, 11, 5, 2, 2), item.Disputed, 0),
		in(agreed(3, 12, 5, 2, 3), item.Cancelled, 0), in(agreed(3, 13, 5, 2, 4), item.Settled, 9))
	buyer := of(t, 5,
		agreed(3, 1, 5, 2, 70), agreed(3, 4, 5, 2, 8), in(agreed(3, 7, 5, 2, 500), item.Agreed, 2),
		in(agreed(3, 2, 5, 2, 6000), item.Settled, 9), agreed(5, 1, 3, 2, 3100), agreed(5, 2, 6, 2, 7000), agreed(6, 5, 5, 2, 1),
		in(agreed(3, 10, 5, 2, 10), item.Disputed, 0), in(agreed(3, 14, 5, 2, 50), item.Proposed, 0),
		in(agreed(3, 12, 5, 2, 30), item.Cancelled, 0), in(agreed(3, 15, 5, 2, 40), item.Settled, 9), agreed(3, 20, 5, 7, 9))
	return seller, buyer
}

// P15.1
func TestLookIsOfWhatIsAgreedBetweenTheTwo(t *testing.T) {
	seller, buyer := two(t)
	looks(t, seller, buyer, 2, elim.Pair{Seller: 3, Buyer: 5, Had: 578, Paid: 578, Alike: true})
	looks(t, buyer, seller, 2, elim.Pair{Seller: 5, Buyer: 3, Had: 3100, Paid: 3000})
	looks(t, seller, buyer, 1, elim.Pair{Seller: 3, Buyer: 5, Had: 1000})
	looks(t, seller, buyer, 7, elim.Pair{Seller: 3, Buyer: 5, Paid: 9})
	looks(t, seller, of(t, 6), 2, elim.Pair{Seller: 3, Buyer: 6, Had: 2000})
	looks(t, of(t, 6), seller, 2, elim.Pair{Seller: 6, Buyer: 3, Paid: 4000})
	looks(t, of(t, 6), of(t, 7), 2, elim.Pair{Seller: 6, Buyer: 7, Alike: true})
	for _, currency := range wild() {
		if currency < 0 || currency > 7 || currency == 0 || currency == 3 {
			looks(t, seller, buyer, currency, elim.Pair{Seller: 3, Buyer: 5, Alike: true})
		}
	}
}

// P15.1: nobody sells to itself.
func TestLookOfBooksOfOneEntity(t *testing.T) {
	seller, buyer := two(t)
	looks(t, seller, seller, 2, elim.Pair{Seller: 3, Buyer: 3, Alike: true})
	looks(t, buyer, of(t, 5), 2, elim.Pair{Seller: 5, Buyer: 5, Alike: true})
	looks(t, of(t, 0), of(t, 0), 0, elim.Pair{Alike: true})
}

// P15.1: each is the same, but for its cycle.
func TestLookIsAlikeWhereEachIsTheSame(t *testing.T) {
	x, y := agreed(1, 4, 2, 0, 70), agreed(1, 6, 2, 0, 30)
	round := x
	round.Round = 1
	third := x
	third.Buyer = 0
	for _, c := range []struct {
		seller, buyer []api.Item
		had, paid     int64
		alike         bool
	}{
		{[]api.Item{x, y}, []api.Item{y, x}, 100, 100, true},
		{[]api.Item{in(x, item.Agreed, 5), y}, []api.Item{x, in(y, item.Agreed, item.MaxCycle)}, 100, 100, true},
		{[]api.Item{in(x, item.Agreed, 5)}, []api.Item{in(x, item.Agreed, 6)}, 70, 70, true},
		{[]api.Item{round}, []api.Item{round}, 70, 70, true},
		{[]api.Item{round}, []api.Item{x}, 70, 70, false},
		{[]api.Item{x}, []api.Item{round}, 70, 70, false},
		{[]api.Item{x}, []api.Item{x, y}, 70, 100, false},
		{[]api.Item{x, y}, []api.Item{y}, 100, 30, false},
		{[]api.Item{x}, nil, 70, 0, false},
		{nil, []api.Item{x}, 0, 70, false},
		{[]api.Item{x}, []api.Item{agreed(1, 4, 2, 0, 71)}, 70, 71, false},
		{[]api.Item{x}, []api.Item{agreed(1, 5, 2, 0, 70)}, 70, 70, false},
		{[]api.Item{x, y}, []api.Item{agreed(1, 4, 2, 0, 30), agreed(1, 6, 2, 0, 70)}, 100, 100, false},
		{[]api.Item{x, y}, []api.Item{agreed(1, 4, 2, 0, 100)}, 100, 100, false},
		{[]api.Item{x, y}, []api.Item{x, agreed(1, 7, 2, 0, 30)}, 100, 100, false},
		{[]api.Item{x}, []api.Item{agreed(1, 4, 2, 3, 70)}, 70, 0, false},
		{[]api.Item{x}, []api.Item{in(x, item.Settled, 1)}, 70, 0, false},
		{[]api.Item{in(x, item.Settled, 1)}, []api.Item{in(x, item.Agreed, 1)}, 0, 70, false},
		{[]api.Item{in(x, item.Settled, 1)}, []api.Item{in(x, item.Settled, 1)}, 0, 0, true},
		{[]api.Item{in(x, item.Proposed, 0)}, []api.Item{x}, 0, 70, false},
		{[]api.Item{third}, []api.Item{x}, 0, 70, false},
		{[]api.Item{third}, nil, 0, 0, true},
		{nil, nil, 0, 0, true},
	} {
		looks(t, of(t, 1, c.seller...), of(t, 2, c.buyer...), 0, elim.Pair{Seller: 1, Buyer: 2, Had: c.had, Paid: c.paid, Alike: c.alike})
	}
}

// P15.1
func TestLookOfTheGreatest(t *testing.T) {
	seller, buyer := whole(t, 1, 1, 2), whole(t, 2, 1, 2)
	most := int64(book.MaxItems * api.MaxAmount)
	looks(t, seller, buyer, 0, elim.Pair{Seller: 1, Buyer: 2, Had: most, Paid: most, Alike: true})
	less, e := buyer.Put(agreed(1, book.MaxItems, 2, 0, api.MaxAmount-1))
	if e != api.OK {
		t.Fatal(e)
	}
	looks(t, seller, less, 0, elim.Pair{Seller: 1, Buyer: 2, Had: most, Paid: most - 1})
	less, e = buyer.Put(in(agreed(1, 500, 2, 0, api.MaxAmount), item.Settled, 3))
	if e != api.OK {
		t.Fatal(e)
	}
	looks(t, seller, less, 0, elim.Pair{Seller: 1, Buyer: 2, Had: most, Paid: most - api.MaxAmount})
}

// P15.1: sums that don't fit come of amounts alone that nobody has looked at.
func TestLookOfSumsThatDoNotFit(t *testing.T) {
	much, right := []int64{math.MaxInt64, 1}, []int64{70}
	overflows(t, byHand(0, much...), byHand(1, right...))
	overflows(t, byHand(0, right...), byHand(1, much...))
	overflows(t, byHand(0, much...), byHand(1, much...))
	overflows(t, byHand(0, math.MinInt64, -1), byHand(1))
	// What sums on the way would be doesn't count.
	back := []int64{math.MaxInt64, 1, math.MaxInt64, math.MinInt64, math.MinInt64 + 9}
	looks(t, byHand(0, back...), byHand(1, back...), 0, elim.Pair{Seller: 0, Buyer: 1, Had: 8, Paid: 8, Alike: true})
	even(t, true, 0, byHand(0, back...), byHand(1, back...))
	// Without an error they would be alike.
	even(t, false, 0, byHand(0, much...), byHand(1, much...))
	refuses(t, 0, api.ErrSum, byHand(0, much...))
	refuses(t, 0, api.ErrSum, of(t, 3), byHand(1, math.MaxInt64, 2))
}

// P15.2
func TestGroup(t *testing.T) {
	seller, buyer := two(t)
	all := []book.Book{seller, buyer}
	groups(t, 2, all, 0, 0, 0, 578+2000-3000-4000, 0, -578+3100+7000-1)
	groups(t, 1, all, 0, 0, 0, 1000)
	groups(t, 7, all, 0, 0, 0, 0, 0, -9)
	groups(t, 0, all)
	groups(t, 6, all)
	groups(t, 2, all[1:], 0, 0, 0, 0, 0, -578+3100+7000-1)
	slices.Reverse(all)
	groups(t, 2, all, 0, 0, 0, 578+2000-3000-4000, 0, -578+3100+7000-1)
	// Of one entity it is added to what that has.
	groups(t, 1, []book.Book{seller, seller, buyer, seller, of(t, 3)}, 0, 0, 0, 3000)
	groups(t, 0, []book.Book{of(t, 0, agreed(0, 1, 1, 0, 70)), of(t, 0, agreed(1, 1, 0, 0, 70))})
	// What sums to nothing isn't there.
	groups(t, 0, []book.Book{of(t, 0, agreed(0, 1, 1, 0, 70), agreed(1, 1, 0, 0, 70)), of(t, 1, agreed(1, 1, 0, 0, 70))}, 0, 70)
	groups(t, 0, []book.Book{of(t, 0), of(t, 7, agreed(7, 1, 0, 0, 1))}, 0, 0, 0, 0, 0, 0, 0, 1)
}

// P15.2
func TestGroupRefusesACurrencyThatIsNone(t *testing.T) {
	seller, buyer := two(t)
	for _, currency := range wild() {
		groups(t, currency, nil) // of no books there is no error
		if currency < 0 || currency > 7 {
			refuses(t, currency, api.ErrRange, seller)
			refuses(t, currency, api.ErrRange, of(t, 0), buyer)
		}
	}
}

// P15.2: each is the sum of one book, 2^60 at most: eight of them are 2^63, which doesn't fit; with the sign turned they do.
func TestGroupOfTheGreatest(t *testing.T) {
	sells, buys := whole(t, 1, 1, 2), whole(t, 1, 2, 1)
	most := int64(book.MaxItems * api.MaxAmount)
	groups(t, 0, []book.Book{sells, buys})
	groups(t, 0, []book.Book{buys, whole(t, 2, 2, 1)}, 0, -most, most)
	eight := slices.Repeat([]book.Book{sells}, 8)
	groups(t, 0, eight[:7], 0, 7*most)
	refuses(t, 0, api.ErrSum, eight...)
	refuses(t, 0, api.ErrSum, append(eight, buys)...) // in order: the first error counts
	groups(t, 0, append([]book.Book{buys}, eight...), 0, 7*most)
	groups(t, 0, slices.Repeat([]book.Book{buys}, 8), 0, math.MinInt64)
	refuses(t, 0, api.ErrSum, slices.Repeat([]book.Book{buys}, 9)...)
}

// P15.3
func TestEvenOfNoTwo(t *testing.T) {
	seller, buyer := two(t)
	for _, currency := range wild() {
		even(t, true, currency)
		even(t, true, currency, seller)
		even(t, true, currency, buyer, buyer)
		even(t, true, currency, buyer, of(t, 5)) // of one entity no two are held against each other
	}
}

// P15.3
func TestEvenIsOfBothWaysAndOfTheCurrency(t *testing.T) {
	seller, buyer := two(t)
	even(t, false, 2, seller, buyer) // one way alone is alike
	even(t, false, 1, seller, buyer)
	even(t, false, 7, seller, buyer)
	even(t, true, 0, seller, buyer)
	x, y := agreed(0, 1, 1, 0, 70), agreed(1, 1, 0, 0, 70)
	even(t, true, 0, of(t, 0, x, y), of(t, 1, x, y))
	even(t, false, 0, of(t, 0, x, y), of(t, 1, x))
	even(t, false, 0, of(t, 0, x, y), of(t, 1, y))
	even(t, false, 0, of(t, 0, x), of(t, 1, y))
	even(t, true, 1, of(t, 0, x), of(t, 1, y))
	even(t, true, 0, of(t, 0, in(x, item.Agreed, 4)), of(t, 1, in(x, item.Agreed, 3)))
	// Nothing together, and yet not even.
	even(t, false, 0, of(t, 0, x), of(t, 1, agreed(0, 2, 1, 0, 70)))
	even(t, false, 0, of(t, 0, agreed(0, 1, 2, 0, 70)), of(t, 1, x), of(t, 2))
	even(t, true, 0, of(t, 0, agreed(0, 1, 2, 0, 70)), of(t, 1, agreed(1, 1, 2, 0, 70)), of(t, 4)) // who is not among them counts for nothing
	for _, currency := range []int{math.MinInt, -1, 8, math.MaxInt} {
		even(t, true, currency, of(t, 0, x), of(t, 1, y))
	}
}

// P15.3: each book of an entity is held against all of the others'.
func TestEvenOfSeveralBooksOfAnEntity(t *testing.T) {
	x := agreed(0, 1, 1, 0, 70)
	even(t, true, 0, of(t, 0, x), of(t, 0, x), of(t, 1, x), of(t, 1, x))
	even(t, false, 0, of(t, 0, x), of(t, 0), of(t, 1, x))
	even(t, false, 0, of(t, 0, x), of(t, 1), of(t, 1, x))
	even(t, true, 0, of(t, 0, x), of(t, 0), of(t, 2))
}

// trade is a group of eight in which each sells an item to each, in the currency 3; the books as they are put together.
func trade() [][]api.Item {
	lists := make([][]api.Item, 8)
	for seller := range 8 {
		for buyer := range 8 {
			if seller != buyer {
				x := agreed(seller, buyer+1, buyer, 3, int64(100*seller+buyer+1))
				lists[seller], lists[buyer] = append(lists[seller], x), append(lists[buyer], x)
			}
		}
	}
	return lists
}

// books are the books of these lists.
func books(t *testing.T, lists [][]api.Item) []book.Book {
	t.Helper()
	var all []book.Book
	for me, list := range lists {
		all = append(all, of(t, me, list...))
	}
	return all
}

// P15.3: one item that is otherwise at one party is told, whichever it is.
func TestEvenIsOfEachTwo(t *testing.T) {
	even(t, true, 3, books(t, trade())...)
	for me := range 8 {
		for i := range trade()[me] {
			lists := trade()
			lists[me][i].Amount++
			even(t, false, 3, books(t, lists)...)
			lists = trade()
			lists[me] = slices.Delete(lists[me], i, i+1)
			all := books(t, lists)
			even(t, false, 3, all...)
			even(t, true, 4, all...)
			even(t, true, 3, slices.Delete(all, me, me+1)...) // without that one all is well
		}
	}
}

// tradeAtRandom is what the books of n entities have: mostly the same at both parties.
func tradeAtRandom(r *rand.Rand, n int) [][]api.Item {
	lists := make([][]api.Item, n)
	for seller := range n {
		for number := range r.Intn(8) {
			x := agreed(seller, number+1, (seller+1+r.Intn(n-1))%n, r.Intn(2), 1+r.Int63n(2))
			y := x
			switch r.Intn(24) {
			case 0:
				y.Amount++
			case 1:
				y.Currency = 1 - y.Currency
			case 2:
				y = in(y, item.Settled, 1)
			case 3:
				x, y = in(x, item.Proposed, 0), in(y, item.Disputed, 0)
			case 4, 5:
				y.Cycle = 7
			case 6, 7, 8:
				x, y = in(x, item.Settled, 2), in(y, item.Settled, 2)
			}
			lists[seller], lists[x.Buyer] = append(lists[seller], x), append(lists[x.Buyer], y)
		}
	}
	return lists
}

// between are the items that the chapter's words name, by their names.
func between(list []api.Item, seller, buyer, currency int) (map[api.ID]api.Item, int64) {
	there, sum := map[api.ID]api.Item{}, int64(0)
	for _, x := range list {
		if x.Seller == seller && x.Buyer == buyer && x.Currency == currency && x.State == item.Agreed {
			x.Cycle = 0
			there[x.ID] = x
			sum += x.Amount
		}
	}
	return there, sum
}

// pairByWords is what Look should answer.
func pairByWords(lists [][]api.Item, seller, buyer, currency int) elim.Pair {
	has, had := between(lists[seller], seller, buyer, currency)
	pays, paid := between(lists[buyer], seller, buyer, currency)
	alike := len(has) == len(pays)
	for name, x := range has {
		alike = alike && pays[name] == x
	}
	return elim.Pair{Seller: seller, Buyer: buyer, Had: had, Paid: paid, Alike: alike}
}

// P15.1 to P15.3: books at random are held against each other as the chapter's words tell; where they are even all have nothing together.
func TestBooksAreHeldAgainstEachOtherAsTheWordsTell(t *testing.T) {
	counts := map[bool]int{}
	for seed := range int64(400) {
		r := rand.New(rand.NewSource(seed))
		n := 2 + r.Intn(3)
		lists := tradeAtRandom(r, n)
		all := books(t, lists)
		for currency := range 3 {
			alike, open := true, make([]int64, n)
			for seller := range n {
				for buyer := range n {
					want := pairByWords(lists, seller, buyer, currency)
					looks(t, all[seller], all[buyer], currency, want)
					open[seller] += want.Had
					open[buyer] -= want.Paid
					alike = alike && want.Alike
				}
			}
			groups(t, currency, all, open...)
			even(t, alike, currency, all...)
			counts[alike]++
			v, _ := elim.Group(currency, all...)
			if sum, e := v.Total(currency); alike && sum != 0 || e != api.OK {
				t.Errorf("seed %d: together %d, %v", seed, sum, e)
			}
		}
		if t.Failed() {
			t.Fatalf("seed %d", seed)
		}
	}
	if counts[true] < 200 || counts[false] < 200 { // else the play says little
		t.Errorf("even: %v", counts)
	}
}

// P1
func TestEveryCallEndsAtAllArguments(t *testing.T) {
	seller, buyer := two(t)
	all := []book.Book{{}, seller, buyer, of(t, 0), of(t, 7), whole(t, 1, 1, 2), whole(t, 2, 1, 2)}
	for _, currency := range wild() {
		for _, a := range all {
			for _, b := range all {
				elim.Look(a, b, currency)
				elim.Group(currency, a, b)
				elim.Even(currency, a, b)
			}
		}
		elim.Group(currency)
		elim.Even(currency)
		elim.Group(currency, all...)
		elim.Even(currency, all...)
	}
}

// copied is the same book in memory of its own.
func copied(b book.Book) book.Book {
	return book.Book{Me: b.Me, Items: append([]api.Item{}, b.Items...), Orders: append([]book.Order{}, b.Orders...)}
}

// same holds a book against the one that it was.
func same(t *testing.T, b, want book.Book) {
	t.Helper()
	if b.Me != want.Me || !slices.Equal(b.Items, want.Items) || !slices.Equal(b.Orders, want.Orders) {
		t.Errorf("a book is %+v, was %+v", b, want)
	}
}

// P2: what is handed in stays as it is: the books, and the list of them with its spare room.
func TestWhatIsHandedInStays(t *testing.T) {
	seller, buyer := two(t)
	seller, e := seller.Expect(api.ID{Seller: 5, Number: 1}, 9)
	if e != api.OK {
		t.Fatal(e)
	}
	room := []book.Book{seller, buyer, of(t, 4), whole(t, 1, 1, 2)}
	var before []book.Book
	for _, b := range room {
		before = append(before, copied(b))
	}
	for range 2 {
		for currency := range 9 {
			elim.Look(seller, buyer, currency)
			elim.Look(buyer, seller, currency)
			elim.Group(currency, room[:2]...)
			elim.Even(currency, room[:2]...)
		}
	}
	for i, b := range room {
		same(t, b, before[i])
	}
}

// P2: what is answered hangs on nothing else than what is handed in, and shares nothing with another answer.
func TestAnswersStandByThemselves(t *testing.T) {
	seller, buyer := two(t)
	one, _ := elim.Group(2, seller, buyer)
	list := one.List()
	more, e := one.Add(3, 2, 1000)
	if e != api.OK || more.Of(3, 2) != one.Of(3, 2)+1000 {
		t.Errorf("Add: %v", e)
	}
	room := more.List()
	for i := range room {
		room[i].Amount = 9
	}
	two, _ := elim.Group(2, seller, buyer)
	if !slices.Equal(two.List(), list) || !slices.Equal(one.List(), list) {
		t.Errorf("Group: %+v and %+v, want %+v", one.List(), two.List(), list)
	}
	p, _ := elim.Look(seller, buyer, 2)
	elim.Look(buyer, seller, 1)
	looks(t, copied(seller), copied(buyer), 2, p)
	even(t, elim.Even(2, seller, buyer), 2, copied(seller), copied(buyer))
}
