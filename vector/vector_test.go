package vector_test

import (
	"math"
	"slices"
	"testing"

	"contra/api"
	"contra/vector"
)

type position = vector.Position

// made is the vector to which all this was added.
func made(t *testing.T, list ...position) vector.Vector {
	t.Helper()
	var v vector.Vector
	for _, p := range list {
		var e api.Errno
		if v, e = v.Add(p.Entity, p.Currency, p.Amount); e != api.OK {
			t.Fatalf("Add %v: %v", p, e)
		}
	}
	return v
}

// has holds all that a vector tells against the positions that it should have.
func has(t *testing.T, call string, v vector.Vector, want ...position) {
	t.Helper()
	if got := v.List(); !slices.Equal(got, want) {
		t.Errorf("%s: %v, want %v", call, got, want)
	}
	amounts := map[[2]int]int64{}
	for _, p := range want {
		amounts[[2]int{p.Entity, p.Currency}] = p.Amount
	}
	for entity := -1; entity <= api.MaxEntity; entity++ {
		for currency := -1; currency <= api.MaxCurrency; currency++ {
			if got, want := v.Of(entity, currency), amounts[[2]int{entity, currency}]; got != want {
				t.Errorf("%s: Of %d %d: %d, want %d", call, entity, currency, got, want)
			}
		}
	}
}

// P2.1, P2.2
func TestAddPutsPositionsInTheirOrder(t *testing.T) {
	v := made(t, position{3, 1, 5}, position{1, 2, 7}, position{3, 0, 1}, position{0, 7, -2}, position{7, 7, 9}, position{0, 0, 4}, position{7, 0, 8}, position{1, 1, 6})
	has(t, "Add", v,
		position{0, 0, 4}, position{0, 7, -2}, position{1, 1, 6}, position{1, 2, 7},
		position{3, 0, 1}, position{3, 1, 5}, position{7, 0, 8}, position{7, 7, 9})
}

// P2.1, P2.2
func TestAddPutsEveryPosition(t *testing.T) {
	var v vector.Vector
	var want []position
	for i := range api.MaxEntity * api.MaxCurrency {
		n := i * 37 % (api.MaxEntity * api.MaxCurrency) // another order than theirs
		var e api.Errno
		if v, e = v.Add(n/api.MaxCurrency, n%api.MaxCurrency, int64(n+1)); e != api.OK {
			t.Fatalf("Add %d: %v", n, e)
		}
		want = append(want, position{i / api.MaxCurrency, i % api.MaxCurrency, int64(i + 1)})
	}
	has(t, "all positions", v, want...)
}

// P2.1, P2.2
func TestAddAddsToWhatIsThere(t *testing.T) {
	v := made(t, position{2, 3, 5}, position{2, 4, 1}, position{2, 3, 6})
	has(t, "more", v, position{2, 3, 11}, position{2, 4, 1})
	has(t, "less", made(t, position{2, 3, 5}, position{2, 3, -6}), position{2, 3, -1})
	has(t, "nothing more", made(t, position{2, 3, 5}, position{2, 3, 0}), position{2, 3, 5})
	has(t, "up to the greatest", made(t, position{2, 3, math.MaxInt64 - 1}, position{2, 3, 1}), position{2, 3, math.MaxInt64})
	has(t, "down to the least", made(t, position{2, 3, math.MinInt64 + 1}, position{2, 3, -1}), position{2, 3, math.MinInt64})
}

// P2.1, P2.2
func TestNothingIsNoPosition(t *testing.T) {
	has(t, "the zero vector", vector.Vector{})
	has(t, "nothing is put", made(t, position{2, 3, 0}))
	has(t, "5, then -5", made(t, position{2, 3, 5}, position{2, 3, -5}))
	has(t, "the middle one is gone", made(t, position{1, 1, 1}, position{2, 2, 2}, position{3, 3, 3}, position{2, 2, -2}), position{1, 1, 1}, position{3, 3, 3})
	has(t, "the first one is gone", made(t, position{1, 1, 1}, position{2, 2, 2}, position{1, 1, -1}), position{2, 2, 2})
	has(t, "the last one is gone", made(t, position{1, 1, 1}, position{2, 2, 2}, position{2, 2, -2}), position{1, 1, 1})
	has(t, "gone and back", made(t, position{1, 1, 1}, position{1, 1, -1}, position{1, 1, 4}), position{1, 1, 4})
}

// P2.1
func TestAddRefusesAndLeavesTheVector(t *testing.T) {
	v := made(t, position{0, 0, math.MaxInt64}, position{4, 5, 3}, position{7, 7, math.MinInt64})
	for _, c := range []struct {
		position
		want api.Errno
	}{
		{position{-1, 0, 1}, api.ErrRange}, {position{8, 0, 1}, api.ErrRange}, {position{0, -1, 1}, api.ErrRange}, {position{0, 8, 1}, api.ErrRange},
		{position{math.MinInt, 0, 1}, api.ErrRange}, {position{math.MaxInt, 0, 1}, api.ErrRange},
		{position{0, math.MinInt, 1}, api.ErrRange}, {position{0, math.MaxInt, 1}, api.ErrRange},
		{position{8, 0, 0}, api.ErrRange}, {position{0, 8, math.MaxInt64}, api.ErrRange}, {position{-1, 8, math.MaxInt64}, api.ErrRange},
		{position{0, 0, 1}, api.ErrSum}, {position{0, 0, math.MaxInt64}, api.ErrSum},
		{position{7, 7, -1}, api.ErrSum}, {position{7, 7, math.MinInt64}, api.ErrSum},
	} {
		w, e := v.Add(c.Entity, c.Currency, c.Amount)
		if e != c.want {
			t.Errorf("Add %v: %v, want %v", c.position, e, c.want)
		}
		has(t, "beside an error", w, v.List()...)
	}
	has(t, "the vector itself", v, position{0, 0, math.MaxInt64}, position{4, 5, 3}, position{7, 7, math.MinInt64})
}

// P2.2
func TestOfWhatIsNotThere(t *testing.T) {
	v := made(t, position{1, 1, 5}, position{1, 3, 6}, position{3, 1, 7})
	for _, entity := range []int{math.MinInt, -1, 0, 2, 8, math.MaxInt} {
		for _, currency := range []int{math.MinInt, -1, 0, 1, 2, 3, 8, math.MaxInt} {
			if n := v.Of(entity, currency); n != 0 {
				t.Errorf("Of %d %d: %d", entity, currency, n)
			}
		}
	}
}

// P2.3
func TestPlusTellsWhatBothHave(t *testing.T) {
	v := made(t, position{1, 2, 7}, position{3, 1, 5}, position{4, 0, -9}, position{6, 6, math.MaxInt64})
	w := made(t, position{0, 0, 1}, position{1, 2, 3}, position{3, 1, -5}, position{5, 5, 2}, position{6, 6, math.MinInt64})
	want := []position{{0, 0, 1}, {1, 2, 10}, {4, 0, -9}, {5, 5, 2}, {6, 6, -1}}
	for name, c := range map[string][2]vector.Vector{"v and w": {v, w}, "w and v": {w, v}} {
		sum, e := c[0].Plus(c[1])
		if e != api.OK {
			t.Errorf("Plus: %v", e)
		}
		has(t, name, sum, want...)
	}
	var none vector.Vector
	for name, c := range map[string][2]vector.Vector{"v and none": {v, none}, "none and v": {none, v}} {
		sum, e := c[0].Plus(c[1])
		if e != api.OK {
			t.Errorf("Plus: %v", e)
		}
		has(t, name, sum, v.List()...)
	}
	sum, e := none.Plus(none)
	if e != api.OK {
		t.Errorf("Plus of nothing: %v", e)
	}
	has(t, "none and none", sum)
	sum, e = v.Plus(made(t, position{1, 2, -7}, position{3, 1, -5}, position{4, 0, 9}, position{6, 6, -math.MaxInt64}))
	if e != api.OK {
		t.Errorf("Plus to nothing: %v", e)
	}
	has(t, "to nothing", sum)
}

// P2.3
func TestPlusRefusesAndLeavesTheVector(t *testing.T) {
	v := made(t, position{1, 1, 5}, position{2, 2, math.MaxInt64}, position{3, 3, math.MinInt64}, position{4, 4, 7})
	for _, p := range []position{{2, 2, 1}, {2, 2, math.MaxInt64}, {3, 3, -1}, {3, 3, math.MinInt64}} {
		w := made(t, position{0, 0, 1}, position{1, 1, 6}, p, position{4, 4, 8})
		before := w.List()
		sum, e := v.Plus(w)
		if e != api.ErrSum {
			t.Errorf("Plus of %v: %v", p, e)
		}
		has(t, "beside an error", sum, v.List()...)
		has(t, "the other one", w, before...)
	}
	has(t, "the vector itself", v, position{1, 1, 5}, position{2, 2, math.MaxInt64}, position{3, 3, math.MinInt64}, position{4, 4, 7})
}

// P2.3
func TestTotalSumsACurrency(t *testing.T) {
	v := made(t, position{0, 1, 5}, position{0, 2, 100}, position{3, 1, -7}, position{3, 3, math.MaxInt64}, position{4, 3, math.MaxInt64},
		position{5, 3, -math.MaxInt64}, position{6, 4, math.MaxInt64}, position{7, 4, 1}, position{6, 5, math.MinInt64}, position{7, 5, -1})
	for currency, want := range map[int]int64{0: 0, 1: -2, 2: 100, 3: math.MaxInt64, 6: 0, -1: 0, 8: 0, math.MinInt: 0, math.MaxInt: 0} {
		if n, e := v.Total(currency); n != want || e != api.OK {
			t.Errorf("Total %d: %d, %v; want %d", currency, n, e, want)
		}
	}
	for _, currency := range []int{4, 5} {
		if n, e := v.Total(currency); n != 0 || e != api.ErrSum {
			t.Errorf("Total %d: %d, %v", currency, n, e)
		}
	}
	if n, e := (vector.Vector{}).Total(0); n != 0 || e != api.OK {
		t.Errorf("Total of nothing: %d, %v", n, e)
	}
}

// P1
func TestEveryCallEndsAtAllArguments(t *testing.T) {
	numbers := []int{math.MinInt, -9, -8, -1, 0, 1, 7, 8, 9, 63, 64, math.MaxInt}
	vectors := []vector.Vector{{}, made(t, position{0, 0, math.MinInt64}), made(t, position{0, 0, math.MaxInt64}, position{7, 7, 1})}
	for _, v := range vectors {
		for _, w := range vectors {
			v.Plus(w)
		}
		v.List()
		for _, a := range numbers {
			v.Total(a)
			for _, b := range numbers {
				v.Of(a, b)
				for _, amount := range []int64{math.MinInt64, -1, 0, 1, math.MaxInt64} {
					v.Add(a, b, amount)
				}
			}
		}
	}
}

// P2
func TestAVectorStaysAsItIs(t *testing.T) {
	list := []position{{1, 1, 1}, {2, 2, 2}, {4, 4, 4}, {5, 5, 5}}
	v := made(t, list...)
	a, _ := v.Add(3, 3, 3)
	b, _ := v.Add(3, 3, 30)
	c, _ := v.Add(2, 2, -2)
	d, _ := v.Add(1, 1, 9)
	e, _ := v.Add(7, 7, 7)
	f, _ := v.Add(7, 7, 70)
	g, _ := v.Plus(v)
	has(t, "the vector itself", v, list...)
	has(t, "one in the middle", a, position{1, 1, 1}, position{2, 2, 2}, position{3, 3, 3}, position{4, 4, 4}, position{5, 5, 5})
	has(t, "another one in the middle", b, position{1, 1, 1}, position{2, 2, 2}, position{3, 3, 30}, position{4, 4, 4}, position{5, 5, 5})
	has(t, "one less", c, position{1, 1, 1}, position{4, 4, 4}, position{5, 5, 5})
	has(t, "more of one", d, position{1, 1, 10}, position{2, 2, 2}, position{4, 4, 4}, position{5, 5, 5})
	has(t, "one behind", e, append(slices.Clone(list), position{7, 7, 7})...)
	has(t, "another one behind", f, append(slices.Clone(list), position{7, 7, 70})...)
	has(t, "twice", g, position{1, 1, 2}, position{2, 2, 4}, position{4, 4, 8}, position{5, 5, 10})
}

// P2
func TestWhatListAnswersIsNewMemory(t *testing.T) {
	v := made(t, position{1, 1, 1}, position{2, 2, 2}, position{3, 3, 3})
	refused, _ := v.Add(8, 8, 8)
	less, _ := v.Add(3, 3, -3)
	none, _ := v.Plus(vector.Vector{})
	for _, w := range []vector.Vector{v, refused, less, none} {
		other := w.List()
		spoilt := w.List()
		spoilt = spoilt[:cap(spoilt)]
		for i := range spoilt {
			spoilt[i] = position{6, 6, 6}
		}
		has(t, "behind writes to a list", w, other...)
	}
	has(t, "the vector itself", v, position{1, 1, 1}, position{2, 2, 2}, position{3, 3, 3})
	has(t, "beside the error", refused, position{1, 1, 1}, position{2, 2, 2}, position{3, 3, 3})
	has(t, "one less", less, position{1, 1, 1}, position{2, 2, 2})
}
