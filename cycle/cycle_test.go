package cycle_test

import (
	"math"
	"math/rand"
	"slices"
	"testing"

	"contra/api"
	"contra/book"
	"contra/cycle"
)

// line is an item's part in a cycle.
func line(seller, number, buyer int, amount int64) api.Line {
	return api.Line{ID: api.ID{Seller: seller, Number: number}, Buyer: buyer, Amount: amount}
}

// several are lines of 0, 1 and 2, in order.
func several() []api.Line {
	return []api.Line{line(0, 1, 1, 70), line(0, 3, 2, 5), line(1, 1, 0, 30), line(1, 2, 2, 11), line(2, 7, 0, 400)}
}

// wild are numbers inside and outside what is taken.
func wild() []int {
	return []int{math.MinInt, math.MinInt + 1, -8, -2, -1, 0, 1, 2, 3, 6, 7, 8, 9, 1 << 10, 1 << 20, 1<<20 + 1, math.MaxInt - 1, math.MaxInt}
}

// fits says what Fits has to answer.
func fits(t *testing.T, n int, want api.Errno, lines ...api.Line) {
	t.Helper()
	if e := cycle.Fits(n, lines); e != want {
		t.Errorf("Fits %d, %v: %v, want %v", n, lines, e, want)
	}
}

// has holds lines against those that they should be.
func has(t *testing.T, call string, got []api.Line, want ...api.Line) {
	t.Helper()
	if !slices.Equal(got, want) {
		t.Errorf("%s: %v, want %v", call, got, want)
	}
}

// nets says what Nets has to answer, and what Right says of that.
func nets(t *testing.T, lines []api.Line, want ...int64) {
	t.Helper()
	if got, e := cycle.Nets(len(want), lines); e != api.OK || !slices.Equal(got, want) {
		t.Errorf("Nets: %v, %v; want %v", got, e, want)
	}
	if e := cycle.Right(lines, want); e != api.OK {
		t.Errorf("Right %v: %v", want, e)
	}
}

// refuses says with which error Nets has to answer, and Right, too, of as many nets.
func refuses(t *testing.T, n int, lines []api.Line, want api.Errno) {
	t.Helper()
	if got, e := cycle.Nets(n, lines); e != want || len(got) != 0 {
		t.Errorf("Nets %d: %v, %v; want %v", n, got, e, want)
	}
	if n >= 0 {
		if e := cycle.Right(lines, make([]int64, n)); e != want {
			t.Errorf("Right of %d: %v, want %v", n, e, want)
		}
	}
}

// many are so many lines of a seller and a buyer, each of the greatest amount.
func many(seller, buyer, count int) []api.Line {
	var list []api.Line
	for i := range count {
		list = append(list, line(seller, i+1, buyer, api.MaxAmount))
	}
	return list
}

// P16.1
func TestFits(t *testing.T) {
	fits(t, 3, api.OK, several()...)
	fits(t, 2, api.OK, line(0, 1, 1, 1), line(0, 2, 1, api.MaxAmount), line(0, api.MaxNumber, 1, 1), line(1, 1, 0, 1), line(1, api.MaxNumber, 0, api.MaxAmount))
	fits(t, 8, api.OK, line(0, 9, 7, 1), line(7, 1, 0, 1))
	fits(t, 100, api.OK, line(98, 1, 99, 1), line(99, 1, 98, 1)) // so many as it is told there are
	fits(t, math.MaxInt, api.OK, line(math.MaxInt-2, 1, math.MaxInt-1, 1))
	for _, n := range wild() {
		fits(t, n, api.OK)
	}
}

// P16.1
func TestFitsRefusesWhatIsOutside(t *testing.T) {
	good := line(1, 5, 2, 70)
	for _, n := range wild() {
		want := api.ErrRange
		if n > 2 {
			want = api.OK
		}
		fits(t, n, want, good)
	}
	for _, n := range wild() {
		if n < 0 || n > 2 {
			fits(t, 3, api.ErrRange, line(n, 5, 1, 70))
			fits(t, 3, api.ErrRange, line(1, 5, n, 70))
		} else {
			fits(t, 3, api.ErrRange, line(n, 5, n, 70))
		}
		if n < 1 || n > 1048576 {
			fits(t, 3, api.ErrRange, line(1, n, 2, 70))
		}
	}
	for _, amount := range []int64{math.MinInt64, -70, -1, 0, 1<<50 + 1, math.MaxInt64} {
		fits(t, 3, api.ErrRange, line(1, 5, 2, amount))
		fits(t, 3, api.ErrRange, good, line(1, 6, 2, amount))
	}
}

// P16.1
func TestFitsRefusesWhatIsOutOfOrder(t *testing.T) {
	fits(t, 3, api.ErrForm, line(0, 1, 1, 70), line(0, 1, 1, 70))
	fits(t, 3, api.ErrForm, line(0, 1, 1, 70), line(0, 1, 2, 71)) // the name alone tells the order
	fits(t, 3, api.ErrForm, line(0, 2, 1, 70), line(0, 1, 2, 71))
	fits(t, 3, api.ErrForm, line(1, 1, 2, 70), line(0, 2, 1, 70))
	fits(t, 3, api.ErrForm, line(0, 1, 1, 70), line(0, 3, 1, 70), line(0, 2, 1, 70))
	fits(t, 3, api.ErrForm, line(0, 1, 1, 70), line(2, 3, 1, 70), line(1, 9, 2, 70))
	fits(t, 3, api.OK, line(0, 9, 2, 70), line(1, 1, 0, 1))
	list := several()
	for i := range list {
		for k := range i {
			wrong := slices.Clone(list)
			wrong[i], wrong[k] = wrong[k], wrong[i]
			fits(t, 3, api.ErrForm, wrong...)
		}
		fits(t, 3, api.ErrForm, slices.Insert(slices.Clone(list), i, list[i])...)
	}
}

// P16.1
func TestFitsTellsOfTheFirstLineFirst(t *testing.T) {
	first, outside, behind := line(1, 5, 2, 70), line(1, 6, 3, 70), line(1, 4, 2, 70)
	fits(t, 3, api.ErrForm, first, behind, outside)
	fits(t, 3, api.ErrRange, first, outside, behind)
	fits(t, 3, api.ErrRange, outside, behind, first)
	fits(t, 3, api.ErrForm, first, first, line(9, 9, 9, 9))
	fits(t, 3, api.ErrRange, first, line(1, 4, 3, 70)) // both at once
	fits(t, 3, api.ErrRange, first, line(1, 5, 2, 0))
	fits(t, 3, api.ErrRange, first, line(0, 0, 2, 1))
}

// P16.2
func TestMine(t *testing.T) {
	all := several()
	has(t, "of 0", cycle.Mine(0, all), all[0], all[1], all[2], all[4])
	has(t, "of 1", cycle.Mine(1, all), all[0], all[2], all[3])
	has(t, "of 2", cycle.Mine(2, all), all[1], all[3], all[4])
	for _, me := range wild() {
		if me < 0 || me > 2 {
			has(t, "of none", cycle.Mine(me, all))
		}
		has(t, "of nothing", cycle.Mine(me, nil))
		// Also lines that don't fit, in the order in which they stand.
		odd := []api.Line{line(me, 9, 5, -1), line(5, -3, me, 0), line(me, 9, me, 7), line(4, 4, 5, 1), line(me, 9, 5, -1)}
		has(t, "of what doesn't fit", cycle.Mine(me, odd), odd[0], odd[1], odd[2], odd[4])
	}
}

// P16.2
func TestBoth(t *testing.T) {
	all := several()
	offers := [][]api.Line{cycle.Mine(0, all), cycle.Mine(1, all), cycle.Mine(2, all)}
	has(t, "of all", cycle.Both(offers), all...)
	has(t, "all of all", cycle.Both([][]api.Line{all, all, all}), all...)
	has(t, "of two", cycle.Both(offers[:2]), all[0], all[2])
	has(t, "of one", cycle.Both(offers[:1]))
	has(t, "of none", cycle.Both(nil))
	has(t, "of no lines", cycle.Both([][]api.Line{nil, {}, nil}))
	has(t, "where one has offered nothing", cycle.Both([][]api.Line{offers[0], nil, offers[2]}), all[1], all[4])
	has(t, "where the last one hasn't", cycle.Both([][]api.Line{offers[0], offers[1], {}}), all[0], all[2])
	has(t, "where the first one hasn't", cycle.Both([][]api.Line{{}, offers[1], offers[2]}), all[3])
}

// P16.2
func TestBothIsOfTheVerySame(t *testing.T) {
	x, other := line(1, 5, 2, 70), line(0, 5, 2, 70)
	both := func(seller, buyer api.Line) []api.Line {
		return cycle.Both([][]api.Line{{other}, {seller}, {other, buyer}})
	}
	has(t, "the same", both(x, x), other, x)
	for _, y := range []api.Line{line(1, 5, 2, 71), line(1, 5, 2, 69), line(1, 5, 0, 70), line(1, 4, 2, 70), line(1, 6, 2, 70)} {
		has(t, "another one of the buyer", both(x, y), other)
		has(t, "another one of the seller", both(y, x), other)
	}
}

// P16.2: who is neither its seller nor its buyer counts for nothing, nor does the one of them in the place of the other one.
func TestBothIsOfSellerAndBuyer(t *testing.T) {
	x := line(1, 5, 2, 70)
	for who := range 1 << 4 {
		offers := make([][]api.Line, 4)
		for i := range offers {
			if who>>i&1 == 1 {
				offers[i] = []api.Line{x}
			}
		}
		if who&6 == 6 {
			has(t, "with both", cycle.Both(offers), x)
		} else {
			has(t, "without one", cycle.Both(offers))
		}
	}
}

// P16.2: however many have offered a line, it is there once.
func TestBothIsInTheOrderOfNamesEachOnce(t *testing.T) {
	var all []api.Line
	for seller := range 8 {
		for number := range 20 {
			all = append(all, line(seller, number*number+1, (seller+1+number%7)%8, int64(number+1)))
		}
	}
	offers := make([][]api.Line, 8)
	for i := range offers {
		offers[i] = all
	}
	has(t, "all of all", cycle.Both(offers), all...)
	for i := range offers {
		offers[i] = cycle.Mine(i, all)
	}
	has(t, "each its own", cycle.Both(offers), all...)
}

// P16.3: the chapter's example.
func TestNetsOfTheExample(t *testing.T) {
	nets(t, []api.Line{line(0, 1, 1, 70), line(1, 1, 0, 30)}, 40, -40)
}

// P16.3
func TestNets(t *testing.T) {
	nets(t, several(), 70+5-30-400, -70+30+11, -5-11+400)
	nets(t, several(), 70+5-30-400, -70+30+11, -5-11+400, 0, 0, 0, 0, 0) // of those that have none, too
	nets(t, []api.Line{line(7, 1, 0, api.MaxAmount)}, -api.MaxAmount, 0, 0, 0, 0, 0, 0, api.MaxAmount)
	for n := range 9 {
		nets(t, nil, make([]int64, n)...)
		nets(t, []api.Line{}, make([]int64, n)...)
	}
}

// P16.3, P16.4
func TestNetsRefuses(t *testing.T) {
	outside, behind := []api.Line{line(0, 1, 9, 1)}, []api.Line{line(0, 2, 1, 1), line(0, 1, 1, 1)}
	for _, n := range []int{math.MinInt, -9, -1, 9, 10, 1 << 10} {
		refuses(t, n, nil, api.ErrRange)
		refuses(t, n, several(), api.ErrRange)
		refuses(t, n, behind, api.ErrRange)
	}
	for _, n := range []int{1 << 20, math.MaxInt} {
		if got, e := cycle.Nets(n, nil); e != api.ErrRange || len(got) != 0 {
			t.Errorf("Nets %d: %v, %v", n, got, e)
		}
	}
	for n := range 3 {
		refuses(t, n, several(), api.ErrRange)
	}
	refuses(t, 8, outside, api.ErrRange)
	refuses(t, 2, behind, api.ErrForm)
	refuses(t, 8, behind, api.ErrForm)
	refuses(t, 8, []api.Line{line(0, 1, 1, 0)}, api.ErrRange)
	// Fits' error goes ahead of that of a sum.
	refuses(t, 2, append(many(0, 1, 8192), line(0, 1, 1, 1)), api.ErrForm)
	refuses(t, 2, append(many(0, 1, 8192), line(1, 1, 1, 1)), api.ErrRange)
}

// P16.3, P16.4: 8192 (2^13) of the greatest amount are 2^63, which doesn't fit; with the sign turned it does.
func TestNetsOfTheGreatest(t *testing.T) {
	nets(t, many(0, 1, 8191), 8191*api.MaxAmount, -8191*api.MaxAmount)
	refuses(t, 2, many(0, 1, 8192), api.ErrSum)
	refuses(t, 8, many(0, 1, 8192), api.ErrSum)
	refuses(t, 2, many(1, 0, 8192), api.ErrSum)
	refuses(t, 8, many(6, 7, 8192), api.ErrSum)
	// Two sell half of it each.
	nets(t, slices.Concat(many(0, 2, 4096), many(1, 2, 4096)), 4096*api.MaxAmount, 4096*api.MaxAmount, math.MinInt64)
	refuses(t, 3, slices.Concat(many(0, 2, 4096), many(1, 2, 4097)), api.ErrSum)
	// What sums on the way would be doesn't count.
	nets(t, slices.Concat(many(0, 1, 9000), many(1, 0, 9000)), 0, 0)
	nets(t, slices.Concat(many(0, 1, 9000), many(1, 2, 9000), many(2, 0, 8999)), api.MaxAmount, 0, -api.MaxAmount)
}

// P16.4
func TestRightRefusesOthers(t *testing.T) {
	right := []int64{70 + 5 - 30 - 400, -70 + 30 + 11, -5 - 11 + 400, 0}
	wrong := func(list ...int64) {
		t.Helper()
		if e := cycle.Right(several(), list); e != api.ErrSum {
			t.Errorf("Right %v: %v", list, e)
		}
	}
	for i := range right {
		for _, off := range []int64{1, -1, 100, math.MinInt64} {
			list := slices.Clone(right)
			list[i] += off
			wrong(list...)
			list[(i+1)%4] -= off // they sum to 0 all the same
			wrong(list...)
		}
	}
	wrong(0, 0, 0)
	wrong(0, 0, 0, 0, 0, 0, 0, 0)
	wrong(right[1], right[0], right[2], right[3])
	wrong(-right[0], -right[1], -right[2])
	for n := range 9 {
		e := cycle.Right(nil, make([]int64, n))
		if e != api.OK {
			t.Errorf("Right of %d without lines: %v", n, e)
		}
		if n == 0 {
			continue
		}
		list := make([]int64, n)
		list[n-1] = 1
		if e := cycle.Right(nil, list); e != api.ErrSum {
			t.Errorf("Right %v without lines: %v", list, e)
		}
	}
}

// scattered are lines among n entities, at random, such as fit.
func scattered(r *rand.Rand, n int) []api.Line {
	var all []api.Line
	for seller := range n {
		for number := range 12 {
			if r.Intn(2) == 0 {
				all = append(all, line(seller, number+1, (seller+1+r.Intn(n-1))%n, 1+r.Int63n(3)))
			}
		}
	}
	return all
}

// changed is lines with some left out, and some of another amount or buyer, at random.
func changed(r *rand.Rand, n int, lines []api.Line) []api.Line {
	var list []api.Line
	for _, x := range lines {
		switch r.Intn(8) {
		case 0:
			continue
		case 1:
			x.Amount++
		case 2:
			if x.Buyer = r.Intn(n); x.Buyer == x.Seller {
				continue
			}
		}
		list = append(list, x)
	}
	return list
}

// bothByWords is what Both should answer: each name by itself.
func bothByWords(offers [][]api.Line) []api.Line {
	var list []api.Line
	for seller := range 8 {
		for number := range 14 {
			for _, x := range slices.Concat(offers...) {
				if x.ID != (api.ID{Seller: seller, Number: number}) || slices.Contains(list, x) {
					continue
				}
				if seller < len(offers) && x.Buyer < len(offers) && slices.Contains(offers[seller], x) && slices.Contains(offers[x.Buyer], x) {
					list = append(list, x)
				}
			}
		}
	}
	return list
}

// P16.1 to P16.4: what is offered at random, by all, is reckoned as the chapter's words tell.
func TestCyclesAreAsTheWordsTell(t *testing.T) {
	in, out := 0, 0
	for seed := range int64(300) {
		r := rand.New(rand.NewSource(seed))
		n := 2 + r.Intn(7)
		all := scattered(r, n)
		var offers [][]api.Line
		for me := range n {
			list := changed(r, n, all)
			if r.Intn(4) > 0 {
				list = cycle.Mine(me, list)
			}
			if e := cycle.Fits(n, list); e != api.OK {
				t.Fatalf("seed %d: Fits %v: %v", seed, list, e)
			}
			offers = append(offers, list)
		}
		both := cycle.Both(offers)
		has(t, "Both", both, bothByWords(offers)...)
		want, whole := make([]int64, n), int64(0)
		for _, x := range both {
			want[x.Seller] += x.Amount
			want[x.Buyer] -= x.Amount
		}
		nets(t, both, want...)
		got, _ := cycle.Nets(n, both)
		for _, a := range got {
			whole += a
		}
		if whole != 0 {
			t.Errorf("seed %d: the nets sum to %d", seed, whole)
		}
		in, out = in+len(both), out+len(all)-len(both)
	}
	if in < 1000 || out < 1000 { // else the play says little
		t.Errorf("%d lines are in, %d out", in, out)
	}
}

// odd are lists of lines that fit, and that don't.
func odd() [][]api.Line {
	list := [][]api.Line{nil, {}, several(), many(0, 1, 8200), slices.Repeat(several(), 3)}
	for _, a := range wild() {
		for _, b := range wild() {
			list = append(list, []api.Line{line(a, b, 1, 1), line(1, a, b, int64(a)), line(0, 1, b, math.MinInt64), line(a, b, 1, 1)})
		}
	}
	return list
}

// P1
func TestEveryCallEndsAtAllArguments(t *testing.T) {
	for _, lines := range odd() {
		for _, n := range wild() {
			cycle.Fits(n, lines)
			cycle.Mine(n, lines)
			cycle.Nets(n, lines)
		}
		for n := range 11 {
			cycle.Right(lines, make([]int64, n))
			cycle.Both(slices.Repeat([][]api.Line{lines, several()}, n))
		}
		cycle.Right(lines, nil)
		cycle.Right(lines, []int64{math.MinInt64, math.MaxInt64})
		cycle.Both([][]api.Line{lines})
		cycle.Both([][]api.Line{nil, lines})
		cycle.Both([][]api.Line{lines, lines, lines})
	}
	cycle.Both(odd())
	cycle.Both(make([][]api.Line, 1000))
	cycle.Right(nil, make([]int64, 1<<20))
}

// P2: what is handed in stays as it is, its spare room, too.
func TestWhatIsHandedInStays(t *testing.T) {
	room := append(several(), line(6, 6, 6, 6), line(5, 5, 5, 5))
	before := slices.Clone(room)
	lines := room[:5]
	amounts := []int64{-355, -29, 384, 5, 6}
	offers := [][]api.Line{lines, lines, lines, {line(7, 7, 7, 7)}}
	cycle.Fits(3, lines)
	cycle.Fits(2, lines)
	for me := range 4 {
		cycle.Mine(me, lines)
	}
	cycle.Both(offers[:3])
	cycle.Nets(3, lines)
	cycle.Nets(2, lines)
	if e := cycle.Right(lines, amounts[:3]); e != api.OK {
		t.Errorf("Right: %v", e)
	}
	cycle.Right(lines, amounts[:2])
	has(t, "the lines", room, before...)
	if !slices.Equal(amounts, []int64{-355, -29, 384, 5, 6}) {
		t.Errorf("the nets: %v", amounts)
	}
	for i := range 3 {
		has(t, "an offer", offers[i], before[:5]...)
	}
	has(t, "an offer behind them", offers[3], line(7, 7, 7, 7))
}

// P2: what is answered is new memory, its spare room, too.
func TestWhatIsAnsweredIsNewMemory(t *testing.T) {
	lines := several()
	offers := [][]api.Line{lines, lines, lines}
	for name, call := range map[string]func() []api.Line{
		"Mine of some":  func() []api.Line { return cycle.Mine(1, lines) },
		"Mine of all":   func() []api.Line { return cycle.Mine(1, []api.Line{lines[0], lines[2]}) },
		"Mine of none":  func() []api.Line { return cycle.Mine(5, lines) },
		"Mine of those": func() []api.Line { return cycle.Mine(0, lines[:3]) },
		"Both":          func() []api.Line { return cycle.Both(offers) },
	} {
		one, two := call(), call()
		want := slices.Clone(two)
		room := one[:cap(one)]
		for i := range room {
			room[i] = line(9, 9, 9, 9)
		}
		has(t, name, two, want...)
		has(t, name+", behind it", call(), want...)
		has(t, "the lines behind "+name, lines, several()...)
	}
	one, _ := cycle.Nets(3, lines)
	two, _ := cycle.Nets(3, lines)
	room := one[:cap(one)]
	for i := range room {
		room[i] = 9
	}
	if !slices.Equal(two, []int64{-355, -29, 384}) {
		t.Errorf("Nets: %v", two)
	}
}

// P2: where all lines of a list are an entity's own, Mine is another list all the same.
func TestMineOfAllIsAnotherList(t *testing.T) {
	lines := many(0, 1, 5)
	mine := cycle.Mine(0, lines)
	mine[0].Amount = 1
	has(t, "the lines", lines, many(0, 1, 5)...)
	lines[1].Amount = 2
	if mine[1].Amount != api.MaxAmount {
		t.Error("Mine changes with the lines")
	}
}

// P16.1, P16.2: the order is that of layer 10.
func TestTheOrderIsThatOfNames(t *testing.T) {
	for seller := range 3 {
		for number := 1; number < 4; number++ {
			for _, x := range several() {
				y := line(seller, number, (seller+1)%3, 9)
				want := api.ErrForm
				if book.Compare(x.ID, y.ID) < 0 {
					want = api.OK
				}
				fits(t, 3, want, x, y)
			}
		}
	}
}
