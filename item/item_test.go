package item_test

import (
	"math"
	"math/rand"
	"testing"

	"contra/api"
	"contra/item"
)

// one is an item that can be.
func one() api.Item {
	return api.Item{ID: api.ID{Seller: 2, Number: 9}, Buyer: 5, Currency: 3, Amount: 500, State: item.Proposed}
}

// with is the item with some of it otherwise.
func with(x api.Item, change func(x *api.Item)) api.Item {
	change(&x)
	return x
}

// in is the item in a round and a state, with a cycle.
func in(round, state, cycle int) api.Item {
	return with(one(), func(x *api.Item) { x.Round, x.State, x.Cycle = round, state, cycle })
}

// possible are items that can be: in each round, in each state, with no cycle, the first and the last one, of each of these.
func possible() []api.Item {
	var list []api.Item
	for round := range item.MaxRound + 1 {
		for state := item.Proposed; state <= item.Settled; state++ {
			for _, cycle := range []int{0, 1, 77, item.MaxCycle} {
				may, must := state == item.Agreed || state == item.Settled, state == item.Settled
				if cycle == 0 && must || cycle != 0 && !may {
					continue
				}
				for _, amount := range []int64{1, 500, api.MaxAmount} {
					list = append(list, with(in(round, state, cycle), func(x *api.Item) { x.Amount = amount }))
				}
			}
		}
	}
	return list
}

// act is what may be done to an item, with an amount or a cycle where it takes one.
type act struct {
	name string
	do   func(x api.Item, n int64) (api.Item, api.Errno)
}

func acts() []act {
	plain := func(f func(api.Item) (api.Item, api.Errno)) func(api.Item, int64) (api.Item, api.Errno) {
		return func(x api.Item, _ int64) (api.Item, api.Errno) { return f(x) }
	}
	lock := func(x api.Item, n int64) (api.Item, api.Errno) { return item.Lock(x, int(n)) }
	return []act{
		{"Dispute", plain(item.Dispute)}, {"Agree", plain(item.Agree)}, {"Cancel", plain(item.Cancel)}, {"Adjust", item.Adjust},
		{"Lock", lock}, {"Free", plain(item.Free)}, {"Settle", plain(item.Settle)},
	}
}

// answers holds what a call answers against what it should.
func answers(t *testing.T, call string, before, got api.Item, e api.Errno, want api.Item, wanted api.Errno) {
	t.Helper()
	if got != want || e != wanted {
		t.Errorf("%s of %+v: %+v, %v; want %+v, %v", call, before, got, e, want, wanted)
	}
}

// wild are numbers inside and outside what an item takes.
func wild() []int {
	return []int{math.MinInt, math.MinInt + 1, -1 << 32, -2, -1, 0, 1, 2, 3, 4, 5, 6, 7, 8, 9, 1<<20 - 1, 1 << 20, 1<<20 + 1, 1 << 50, 1<<50 + 1, math.MaxInt - 1, math.MaxInt}
}

// P9.1
func TestStatesAndLimits(t *testing.T) {
	if item.Proposed != 1 || item.Disputed != 2 || item.Agreed != 3 || item.Cancelled != 4 || item.Settled != 5 || item.MaxRound != 3 || item.MaxCycle != 1048576 {
		t.Error("states or limits are others")
	}
}

// field is one number of an item, and from where to where it may be.
type field struct {
	name        string
	set         func(x *api.Item, n int)
	first, last int
}

func fields() []field {
	return []field{
		{"seller", func(x *api.Item, n int) { x.Seller = n }, 0, 7},
		{"buyer", func(x *api.Item, n int) { x.Buyer = n }, 0, 7},
		{"number", func(x *api.Item, n int) { x.Number = n }, 1, 1048576},
		{"currency", func(x *api.Item, n int) { x.Currency = n }, 0, 7},
		{"amount", func(x *api.Item, n int) { x.Amount = int64(n) }, 1, 1125899906842624},
		{"round", func(x *api.Item, n int) { x.Round = n }, 0, 3},
		{"state", func(x *api.Item, n int) { x.State = n }, 1, 5},
		{"cycle", func(x *api.Item, n int) { x.Cycle = n }, 0, 1048576},
	}
}

// P9.1
func TestCheckHoldsEachNumberAgainstItsBounds(t *testing.T) {
	// With each state, and each cycle, that can be, one of these can be.
	several := []api.Item{in(0, item.Proposed, 0), in(1, item.Agreed, 4), in(2, item.Agreed, 0), in(3, item.Settled, 4)}
	for _, f := range fields() {
		for _, n := range append(wild(), f.first-1, f.first, f.last, f.last+1) {
			can, outside := 0, 0
			for _, x := range several {
				switch item.Check(with(x, func(x *api.Item) { f.set(x, n) })) {
				case api.OK:
					can++
				case api.ErrRange:
					outside++
				}
			}
			inside := n >= f.first && n <= f.last
			if f.name == "seller" && n == one().Buyer || f.name == "buyer" && n == one().Seller {
				inside = false
			}
			if inside && (can == 0 || outside > 0) || !inside && outside != len(several) {
				t.Errorf("Check with the %s %d: %d can be, %d are ErrRange", f.name, n, can, outside)
			}
		}
	}
}

// P9.1
func TestCheckWantsTwoParties(t *testing.T) {
	for seller := range api.MaxEntity {
		for buyer := range api.MaxEntity {
			x := with(one(), func(x *api.Item) { x.Seller, x.Buyer = seller, buyer })
			if e := item.Check(x); e == api.OK && seller == buyer || e != api.OK && seller != buyer || e != api.OK && e != api.ErrRange {
				t.Errorf("Check of an item of %d for %d: %v", seller, buyer, e)
			}
		}
	}
}

// P9.1
func TestCheckHoldsTheCycleAgainstTheState(t *testing.T) {
	for _, c := range []struct {
		state      int
		none, some api.Errno
	}{
		{item.Proposed, api.OK, api.ErrState}, {item.Disputed, api.OK, api.ErrState}, {item.Agreed, api.OK, api.OK},
		{item.Cancelled, api.OK, api.ErrState}, {item.Settled, api.ErrState, api.OK},
	} {
		for round := range item.MaxRound + 1 {
			if e := item.Check(in(round, c.state, 0)); e != c.none {
				t.Errorf("Check of the state %d with no cycle: %v", c.state, e)
			}
			for _, cycle := range []int{1, 2, item.MaxCycle - 1, item.MaxCycle} {
				if e := item.Check(in(round, c.state, cycle)); e != c.some {
					t.Errorf("Check of the state %d with the cycle %d: %v", c.state, cycle, e)
				}
			}
		}
	}
}

// P9.1
func TestCheckTellsErrRangeFirst(t *testing.T) {
	for _, x := range []api.Item{in(0, item.Proposed, 1), in(0, item.Disputed, 1), in(0, item.Cancelled, item.MaxCycle), in(0, item.Settled, 0)} {
		if e := item.Check(x); e != api.ErrState {
			t.Errorf("Check of %+v: %v", x, e)
		}
		for _, f := range fields() {
			for _, n := range []int{math.MinInt, -1, f.first - 1, f.last + 1, math.MaxInt} {
				if y := with(x, func(x *api.Item) { f.set(x, n) }); item.Check(y) != api.ErrRange {
					t.Errorf("Check of %+v: %v", y, item.Check(y))
				}
			}
		}
		if y := with(x, func(x *api.Item) { x.Buyer = x.Seller }); item.Check(y) != api.ErrRange {
			t.Errorf("Check of %+v: %v", y, item.Check(y))
		}
	}
	if e := item.Check(api.Item{}); e != api.ErrRange {
		t.Errorf("Check of the zero item: %v", e)
	}
}

// P9.1
func TestNewIsProposedInTheFirstRound(t *testing.T) {
	for _, want := range []api.Item{
		one(),
		{ID: api.ID{Seller: 0, Number: 1}, Buyer: 7, Currency: 0, Amount: 1, State: item.Proposed},
		{ID: api.ID{Seller: 7, Number: api.MaxNumber}, Buyer: 0, Currency: 7, Amount: api.MaxAmount, State: item.Proposed},
	} {
		x, e := item.New(want.ID, want.Buyer, want.Currency, want.Amount)
		answers(t, "New", want, x, e, want, api.OK)
	}
}

// P9.1
func TestNewTellsTheErrorOfCheck(t *testing.T) {
	for _, f := range fields()[:5] {
		for _, n := range append(wild(), f.first-1, f.first, f.last, f.last+1) {
			want := with(one(), func(x *api.Item) { f.set(x, n) })
			x, e := item.New(want.ID, want.Buyer, want.Currency, want.Amount)
			if n >= f.first && n <= f.last && want.Seller != want.Buyer {
				answers(t, "New", want, x, e, want, api.OK)
			} else {
				answers(t, "New", want, x, e, api.Item{}, api.ErrRange)
			}
		}
	}
}

// P9.2
func TestDisputeAgreeAndCancel(t *testing.T) {
	for _, x := range possible() {
		for _, c := range []struct {
			act      act
			from, to int
		}{
			{acts()[0], item.Proposed, item.Disputed}, {acts()[1], item.Proposed, item.Agreed}, {acts()[2], item.Disputed, item.Cancelled},
		} {
			want, wanted := x, api.ErrState
			if x.State == c.from {
				want.State, wanted = c.to, api.OK
			}
			y, e := c.act.do(x, 0)
			answers(t, c.act.name, x, y, e, want, wanted)
		}
	}
}

// P9.2
func TestAdjust(t *testing.T) {
	for _, x := range possible() {
		for _, n := range append(wild(), 0, 1, 499, 500, api.MaxAmount, api.MaxAmount+1) {
			want, wanted := x, api.OK
			switch {
			case x.State != item.Disputed:
				wanted = api.ErrState
			case n < 1 || n > 1125899906842624:
				wanted = api.ErrRange
			case x.Round == 3:
				wanted = api.ErrRound
			default:
				want.State, want.Round, want.Amount = item.Proposed, x.Round+1, int64(n)
			}
			y, e := item.Adjust(x, int64(n))
			answers(t, "Adjust", x, y, e, want, wanted)
		}
	}
}

// P9.2
func TestAdjustTellsTheFirstErrorOfSeveral(t *testing.T) {
	for _, c := range []struct {
		x      api.Item
		amount int64
		want   api.Errno
	}{
		{in(3, item.Proposed, 0), 0, api.ErrState}, {in(3, item.Agreed, 0), api.MaxAmount + 1, api.ErrState},
		{in(3, item.Cancelled, 0), 1, api.ErrState}, {in(3, item.Settled, 1), -1, api.ErrState},
		{in(3, item.Disputed, 0), 0, api.ErrRange}, {in(3, item.Disputed, 0), math.MinInt64, api.ErrRange},
		{in(3, item.Disputed, 0), api.MaxAmount + 1, api.ErrRange}, {in(3, item.Disputed, 0), 1, api.ErrRound},
		{in(3, item.Disputed, 0), api.MaxAmount, api.ErrRound}, {in(2, item.Disputed, 0), math.MaxInt64, api.ErrRange},
	} {
		y, e := item.Adjust(c.x, c.amount)
		answers(t, "Adjust", c.x, y, e, c.x, c.want)
	}
}

// P9.3
func TestLock(t *testing.T) {
	for _, x := range possible() {
		for _, cycle := range append(wild(), item.MaxCycle-1) {
			want, wanted := x, api.OK
			switch {
			case x.State != item.Agreed || x.Cycle != 0:
				wanted = api.ErrState
			case cycle < 1 || cycle > 1048576:
				wanted = api.ErrRange
			default:
				want.Cycle = cycle
			}
			y, e := item.Lock(x, cycle)
			answers(t, "Lock", x, y, e, want, wanted)
		}
	}
}

// P9.3
func TestFreeAndSettle(t *testing.T) {
	for _, x := range possible() {
		free, settled, wanted := x, x, api.ErrState
		if x.State == item.Agreed && x.Cycle != 0 {
			free.Cycle, settled.State, wanted = 0, item.Settled, api.OK
		}
		y, e := item.Free(x)
		answers(t, "Free", x, y, e, free, wanted)
		y, e = item.Settle(x)
		answers(t, "Settle", x, y, e, settled, wanted)
	}
}

// P9.4
func TestRank(t *testing.T) {
	for _, c := range []struct{ round, state, want int }{
		{0, item.Proposed, 0}, {1, item.Proposed, 2}, {2, item.Proposed, 4}, {3, item.Proposed, 6},
		{0, item.Disputed, 1}, {1, item.Disputed, 3}, {2, item.Disputed, 5}, {3, item.Disputed, 7},
		{0, item.Agreed, 8}, {3, item.Agreed, 8}, {0, item.Cancelled, 8}, {3, item.Cancelled, 8}, {0, item.Settled, 9}, {3, item.Settled, 9},
		{0, 0, -1}, {3, 0, -1}, {0, 6, -1}, {2, -1, -1}, {1, math.MinInt, -1}, {1, math.MaxInt, -1},
	} {
		for _, cycle := range []int{0, 1, item.MaxCycle} {
			if n := item.Rank(in(c.round, c.state, cycle)); n != c.want {
				t.Errorf("Rank in the round %d and the state %d: %d, want %d", c.round, c.state, n, c.want)
			}
		}
	}
	if n := item.Rank(api.Item{}); n != -1 {
		t.Errorf("Rank of the zero item: %d", n)
	}
}

// P9.4
func TestOver(t *testing.T) {
	for state, want := range map[int]bool{
		item.Proposed: false, item.Disputed: false, item.Agreed: false, item.Cancelled: true, item.Settled: true,
		0: false, 6: false, -1: false, math.MinInt: false, math.MaxInt: false,
	} {
		for round := range item.MaxRound + 1 {
			for _, cycle := range []int{0, 1} {
				if item.Over(in(round, state, cycle)) != want {
					t.Errorf("Over in the state %d: not %v", state, want)
				}
			}
		}
	}
}

// P9.1, P9.2, P9.3: the chapter's example.
func TestALife(t *testing.T) {
	x, e := item.New(one().ID, 5, 3, 500)
	step := func(y api.Item, f api.Errno) {
		t.Helper()
		if f != api.OK {
			t.Fatalf("from %+v: %v", x, f)
		}
		x = y
	}
	step(x, e)
	step(item.Dispute(x))
	step(item.Adjust(x, 450))
	step(item.Agree(x))
	step(item.Lock(x, 3))
	step(item.Free(x))
	step(item.Lock(x, 3))
	step(item.Settle(x))
	if want := with(in(1, item.Settled, 3), func(x *api.Item) { x.Amount = 450 }); x != want {
		t.Errorf("%+v, want %+v", x, want)
	}
}

// P9.1, P9.2, P9.3, P9.4: whatever is done, in any order, an item can be, never goes back, and stays when it is over.
func TestItemsNeverGoBack(t *testing.T) {
	for seed := range int64(300) {
		r := rand.New(rand.NewSource(seed))
		x := one()
		for range 60 {
			a := acts()[r.Intn(len(acts()))]
			y, e := a.do(x, r.Int63n(1<<21)-1<<19)
			if e != api.OK && y != x || e == api.OK && item.Over(x) {
				t.Fatalf("seed %d: %s of %+v: %+v, %v", seed, a.name, x, y, e)
			}
			turned := e == api.OK && a.name != "Lock" && a.name != "Free"
			if item.Check(y) != api.OK || turned && item.Rank(y) <= item.Rank(x) || !turned && item.Rank(y) != item.Rank(x) {
				t.Fatalf("seed %d: %s of %+v: %+v, %v", seed, a.name, x, y, item.Check(y))
			}
			x = y
		}
	}
}

// P1
func TestEveryCallEndsAtAllArguments(t *testing.T) {
	list := append(possible(), api.Item{})
	for _, f := range fields() {
		for _, n := range wild() {
			for _, x := range possible()[:20] {
				list = append(list, with(x, func(x *api.Item) { f.set(x, n) }))
			}
			list = append(list, with(api.Item{}, func(x *api.Item) { f.set(x, n) }))
		}
	}
	for _, x := range list {
		item.Check(x)
		item.Rank(x)
		item.Over(x)
		item.New(x.ID, x.Buyer, x.Currency, x.Amount)
		for _, a := range acts() {
			for _, n := range []int64{math.MinInt64, -1, 0, 1, 1 << 20, 1<<20 + 1, 1 << 50, 1<<50 + 1, math.MaxInt64} {
				a.do(x, n)
			}
		}
	}
}

// P2
func TestAnswersHangOnTheArgumentsAlone(t *testing.T) {
	for _, x := range possible() {
		before := x
		for _, a := range acts() {
			for _, n := range []int64{0, 1, 450, api.MaxAmount} {
				y, e := a.do(x, n)
				for _, other := range acts() { // done or refused: none of it tells
					other.do(x, 2)
					other.do(y, -1)
				}
				z, f := a.do(x, n)
				answers(t, a.name+" once more", x, z, f, y, e)
			}
		}
		if x != before {
			t.Errorf("%+v was changed: %+v", before, x)
		}
	}
}
