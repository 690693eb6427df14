package chief_test

import (
	"math/rand"
	"slices"
	"testing"

	"contra/api"
	"contra/book"
	"contra/chief"
	"contra/elim"
	"contra/item"
	"contra/match"
	"contra/msg"
	"contra/vote"
)

// model is the cycles as the chapter's words tell them, which are changed in place.
type model struct{ chief.Chief }

// do does what the chapter tells.
func (w *model) do(x event) ([]match.Said, api.Errno) {
	client := x.from == match.Client
	switch x.msg.Kind {
	case msg.Start, msg.Due:
		if !client {
			return nil, api.ErrKind
		}
	case msg.Offer, msg.Vote, msg.Query:
		if client {
			return nil, api.ErrKind
		}
		if x.from < 0 || x.from > w.N-1 {
			return nil, api.ErrOther
		}
	default:
		return nil, api.ErrKind
	}
	if x.msg.Kind == msg.Start {
		return w.start(x.msg.Currency)
	}
	n := x.msg.Cycle
	if n < 1 || n > len(w.Runs) {
		return nil, api.ErrMissing
	}
	r := &w.Runs[n-1]
	switch decided := r.State == chief.Committed || r.State == chief.Aborted; {
	case x.msg.Kind == msg.Offer:
		return w.offer(r, x)
	case x.msg.Kind == msg.Vote:
		return w.vote(r, x)
	case x.msg.Kind == msg.Due && !decided:
		return w.end(r, n, chief.Aborted), api.OK
	case x.msg.Kind == msg.Query && decided:
		return []match.Said{{To: x.from, Msg: decide(n, r.State == chief.Committed)}}, api.OK
	}
	return nil, api.ErrState
}

// start does what the chapter tells of Start.
func (w *model) start(currency int) ([]match.Said, api.Errno) {
	if currency < 0 || currency > 7 {
		return nil, api.ErrRange
	}
	for _, r := range w.Runs {
		if r.Currency == currency && (r.State == chief.Asking || r.State == chief.Preparing) {
			return nil, api.ErrState
		}
	}
	w.Runs = append(w.Runs, chief.Run{Currency: currency, State: chief.Asking, From: make([]chief.Heard, w.N)})
	return toAll(w.N, ask(len(w.Runs), currency)), api.OK
}

// offer does what the chapter tells of Offer.
func (w *model) offer(r *chief.Run, x event) ([]match.Said, api.Errno) {
	if r.State != chief.Asking {
		return nil, api.ErrState
	}
	if r.From[x.from].Offered {
		return nil, api.ErrTwice
	}
	for _, l := range x.msg.Lines {
		if l.Seller != x.from && l.Buyer != x.from {
			return nil, api.ErrOther
		}
	}
	for i, l := range x.msg.Lines {
		if min(l.Seller, l.Buyer) < 0 || max(l.Seller, l.Buyer) >= w.N || l.Seller == l.Buyer || l.Number < 1 || l.Number > 1048576 || l.Amount < 1 || l.Amount > 1<<50 {
			return nil, api.ErrRange
		}
		if i > 0 && book.Compare(x.msg.Lines[i-1].ID, l.ID) >= 0 {
			return nil, api.ErrForm
		}
	}
	r.From[x.from] = offered(x.msg.Lines...)
	for _, h := range r.From {
		if !h.Offered {
			return nil, api.OK
		}
	}
	said := map[api.Line]int{} // by how many of its parties; nobody offers one twice
	for _, h := range r.From {
		for _, l := range h.Lines {
			if said[l]++; said[l] == 2 {
				r.Lines = append(r.Lines, l)
			}
		}
	}
	slices.SortFunc(r.Lines, func(x, y api.Line) int { return book.Compare(x.ID, y.ID) })
	r.Nets = make([]int64, w.N)
	for _, l := range r.Lines {
		r.Nets[l.Seller] += l.Amount
		r.Nets[l.Buyer] -= l.Amount
	}
	r.State = chief.Preparing
	return toAll(w.N, prepare(x.msg.Cycle, r.Lines, r.Nets...)), api.OK
}

// vote does what the chapter tells of Vote.
func (w *model) vote(r *chief.Run, x event) ([]match.Said, api.Errno) {
	if r.State != chief.Preparing {
		return nil, api.ErrState
	}
	if r.From[x.from].Voted {
		return nil, api.ErrTwice
	}
	r.From[x.from].Voted = true
	if !x.msg.Yes {
		return w.end(r, x.msg.Cycle, chief.Aborted), api.OK
	}
	for _, h := range r.From {
		if !h.Voted {
			return nil, api.OK
		}
	}
	return w.end(r, x.msg.Cycle, chief.Committed), api.OK
}

// end does what the chapter tells of the end of a cycle.
func (w *model) end(r *chief.Run, n, state int) []match.Said {
	r.State = state
	return toAll(w.N, decide(n, state == chief.Committed))
}

// items are such as a group may have, at random.
func items(r *rand.Rand, n int) []api.Line {
	var list []api.Line
	for seller := range n {
		for number := 1; number <= r.Intn(12); number++ {
			if buyer := r.Intn(n); buyer != seller {
				list = append(list, line(seller, number, buyer, int64(1+r.Intn(1000))))
			}
		}
	}
	return list
}

// speech is something that is said, at random: mostly such as may be taken.
func speech(r *rand.Rand, c chief.Chief, all []api.Line) event {
	strange := func(usual int) int { // one time in thirty what is strange
		if r.Intn(30) > 0 {
			return usual
		}
		return []int{-5, -2, -1, 0, 1, 3, 5, 7, 8, 9, 10, 11, 12, 13, 15, 16, 1<<20 + 1}[r.Intn(17)]
	}
	n := 1 + r.Intn(len(c.Runs)+1)
	if list := c.Waits(); len(list) > 0 && r.Intn(8) > 0 {
		n = list[r.Intn(len(list))]
	}
	x := event{strange(r.Intn(c.N)), api.Msg{Cycle: strange(n), Yes: r.Intn(8) > 0}}
	switch run, _ := c.Get(n); {
	case r.Intn(15) == 0:
		x.msg.Kind, x.msg.Currency, x.from = msg.Start, strange(r.Intn(4)), strange(match.Client)
	case r.Intn(20) == 0:
		x.msg.Kind, x.from = msg.Due, strange(match.Client)
	case r.Intn(8) == 0 || run.State > chief.Preparing:
		x.msg.Kind = msg.Query
	case run.State == chief.Asking:
		x.msg.Kind, x.msg.Lines = msg.Offer, share(r, x.from, all)
	default:
		x.msg.Kind = msg.Vote
	}
	x.msg.Kind = strange(x.msg.Kind)
	return x
}

// share is most of what an entity is part of, some of it otherwise.
func share(r *rand.Rand, who int, all []api.Line) []api.Line {
	var list []api.Line
	foreign := r.Intn(10) == 0
	for _, l := range all {
		if l.Seller == who || l.Buyer == who || foreign && r.Intn(10) == 0 {
			switch r.Intn(40) {
			case 0:
				continue
			case 1:
				l.Amount++
			}
			list = append(list, l)
		}
	}
	if len(list) == 0 {
		return list
	}
	switch l := &list[r.Intn(len(list))]; r.Intn(30) {
	case 0:
		l.Number = r.Intn(3)
	case 1:
		l.Amount = 0
	case 2:
		l.Buyer = 8
	case 3:
		slices.Reverse(list)
	case 4:
		list = append(list, list[len(list)-1])
	}
	return list
}

// P18.1 to P18.4: whatever is said the coordinator does what the chapter's words tell.
func TestCyclesAreAsTheWordsTell(t *testing.T) {
	counts, states := map[api.Errno]int{}, map[int]int{}
	for seed := range int64(100) {
		r := rand.New(rand.NewSource(seed))
		c := chief.Chief{N: 1 + r.Intn(8)}
		w := &model{c}
		all := items(r, c.N)
		for range 300 {
			x := speech(r, c, all)
			said, e := w.do(x)
			counts[e]++
			before := copied(c)
			next, list, got := c.Do(x.msg, x.from)
			if got != e || !alike(list, said) {
				t.Errorf("Do %+v: %+v, %v; want %+v, %v", x, list, got, said, e)
			}
			same(t, "behind Do", next, w.Chief)
			same(t, "what Do was called on", c, before)
			c = next
			waits(t, c, w)
			if t.Failed() {
				t.Fatalf("seed %d", seed)
			}
		}
		for _, x := range c.Runs {
			states[x.State]++
		}
	}
	for _, e := range []api.Errno{api.OK, api.ErrRange, api.ErrMissing, api.ErrTwice, api.ErrState, api.ErrKind, api.ErrOther, api.ErrForm} {
		if counts[e] < 100 { // else the play says little
			t.Errorf("%v came %d times", e, counts[e])
		}
	}
	if states[chief.Committed] < 100 || states[chief.Aborted] < 100 {
		t.Errorf("states %v", states)
	}
}

// waits says that Waits tells the cycles that aren't decided.
func waits(t *testing.T, c chief.Chief, w *model) {
	t.Helper()
	var want []int
	for i, r := range w.Runs {
		if r.State < chief.Committed {
			want = append(want, i+1)
		}
	}
	if list := c.Waits(); !slices.Equal(list, want) {
		t.Errorf("Waits: %v, want %v", list, want)
	}
}

// company is a group of entities, with their coordinator, and what each of these has been told by the other one and not heard yet.
type company struct {
	chief chief.Chief
	parts []vote.Parts
	books []book.Book
	up    [][]api.Msg // by entity
	down  [][]api.Msg // to entities
}

// founded is a group of so many with items, at random: most of them both parties have as agreed, some the buyer alone.
func founded(t *testing.T, r *rand.Rand, n int) *company {
	t.Helper()
	c := &company{chief: chief.Chief{N: n}, up: make([][]api.Msg, n), down: make([][]api.Msg, n)}
	for who := range n {
		b, _ := book.New(who)
		c.books = append(c.books, b)
		c.parts = append(c.parts, vote.Parts{Me: who, N: n})
	}
	for _, l := range items(r, n) {
		x := api.Item{ID: l.ID, Buyer: l.Buyer, Currency: r.Intn(2), Amount: l.Amount, State: item.Agreed}
		c.put(t, x.Buyer, x)
		if r.Intn(8) == 0 {
			x.State = item.Proposed
		}
		c.put(t, x.Seller, x)
	}
	return c
}

// put has an entity have an item.
func (c *company) put(t *testing.T, who int, x api.Item) {
	t.Helper()
	b, e := c.books[who].Put(x)
	if e != api.OK {
		t.Fatalf("Put %+v: %v", x, e)
	}
	c.books[who] = b
}

// tell tells the coordinator something; what it can't do it doesn't.
func (c *company) tell(x event) {
	next, said, e := c.chief.Do(x.msg, x.from)
	if e != api.OK {
		return
	}
	c.chief = next
	for _, s := range said {
		c.down[s.To] = append(c.down[s.To], s.Msg)
	}
}

// say tells an entity something, likewise.
func (c *company) say(who int, m api.Msg, from int) {
	p, b, said, e := c.parts[who].Do(c.books[who], m, from)
	if e != api.OK {
		return
	}
	c.parts[who], c.books[who] = p, b
	for _, s := range said {
		c.up[who] = append(c.up[who], s.Msg)
	}
}

// hear has one of two things that are on their way to or from an entity come; it answers whether there was one.
func (c *company) hear(who int, up bool) bool {
	list := &c.down[who]
	if up {
		list = &c.up[who]
	}
	if len(*list) == 0 {
		return false
	}
	m := (*list)[0]
	*list = (*list)[1:]
	if up {
		c.tell(event{who, m})
	} else {
		c.say(who, m, c.chief.N)
	}
	return true
}

// step has something happen, at random.
func (c *company) step(t *testing.T, r *rand.Rand) {
	t.Helper()
	n := c.chief.N
	who := r.Intn(n)
	pick := func(list []int) (int, bool) {
		if len(list) == 0 {
			return 0, false
		}
		return list[r.Intn(len(list))], true
	}
	switch r.Intn(120) {
	case 0, 1, 2, 3:
		c.tell(start(r.Intn(2)))
	case 4:
		if k, found := pick(c.chief.Waits()); found {
			c.tell(due(k))
		}
	case 5, 6:
		if k, found := pick(c.parts[who].Waits()); found {
			c.say(who, api.Msg{Kind: msg.Due, Cycle: k}, match.Client)
		}
	case 7: // an item is had otherwise by one, as it is said to no one yet
		if list := c.books[who].Free(0); len(list) > 0 {
			x := list[r.Intn(len(list))]
			x.Amount++
			c.put(t, who, x)
		}
	default:
		c.hear(who, r.Intn(2) == 0)
	}
}

// rest has all come that is on its way, and all wait long enough, until nobody waits for anything.
func (c *company) rest(t *testing.T) {
	t.Helper()
	for range 20 {
		for again := true; again; {
			again = false
			for who := range c.parts {
				down, up := c.hear(who, false), c.hear(who, true)
				again = again || down || up
			}
		}
		calm := true
		for _, k := range c.chief.Waits() {
			c.tell(due(k))
			calm = false
		}
		for who, p := range c.parts {
			for _, k := range p.Waits() {
				c.say(who, api.Msg{Kind: msg.Due, Cycle: k}, match.Client)
				calm = false
			}
		}
		if calm {
			return
		}
	}
	t.Errorf("no rest: the coordinator waits for %v", c.chief.Waits())
}

// decided says that there is one decision of each cycle, which each has followed that has heard of it.
func (c *company) decided(t *testing.T, rest bool) {
	t.Helper()
	in := map[api.ID]int{}
	for i, x := range c.chief.Runs {
		n := i + 1
		for who, p := range c.parts {
			y, _ := p.Get(n)
			switch {
			case x.State == chief.Committed && y.State != vote.Yes && y.State != vote.Done,
				x.State != chief.Committed && y.State == vote.Done,
				x.State != chief.Aborted && y.State == vote.Undone,
				rest && y.State != vote.Done && y.State != vote.Undone:
				t.Errorf("the cycle %d is %d to the coordinator, and %d to %d", n, x.State, y.State, who)
			}
			if rest && len(c.books[who].Locked(n)) != 0 {
				t.Errorf("the cycle %d has items of %d still", n, who)
			}
		}
		if x.State != chief.Committed {
			continue
		}
		for _, l := range x.Lines {
			if in[l.ID] != 0 {
				t.Errorf("%+v is in %d, and in %d", l, in[l.ID], n)
			}
			in[l.ID] = n
		}
	}
	for who, b := range c.books {
		for _, x := range b.Items {
			if x.State == item.Settled && in[x.ID] != x.Cycle || rest && in[x.ID] != 0 && x.State != item.Settled {
				t.Errorf("%d has %+v, which is in %d", who, x, in[x.ID])
			}
		}
	}
}

// P18.1 to P18.4: all settle a cycle, or none; what is settled leaves books as even as they were.
func TestAllSettleOrNone(t *testing.T) {
	states, settled := map[int]int{}, 0
	for seed := range int64(120) {
		r := rand.New(rand.NewSource(seed))
		c := founded(t, r, 1+r.Intn(8))
		for range 800 {
			c.step(t, r)
			c.decided(t, false)
		}
		c.rest(t)
		c.decided(t, true)
		for _, x := range c.chief.Runs {
			states[x.State]++
			if x.State == chief.Committed {
				settled += len(x.Lines)
			}
		}
		if t.Failed() {
			t.Fatalf("seed %d", seed)
		}
	}
	if states[chief.Committed] < 100 || states[chief.Aborted] < 100 || settled < 500 {
		t.Errorf("states %v, %d lines are settled", states, settled)
	}
}

// P18.2, P18.3: a cycle in which all goes well settles all that both parties have as agreed, and leaves the rest even.
func TestACycleSettlesWhatBothHave(t *testing.T) {
	for seed := range int64(40) {
		r := rand.New(rand.NewSource(seed))
		c := founded(t, r, 2+r.Intn(7))
		before := slices.Clone(c.books)
		c.tell(start(1))
		c.rest(t)
		x, _ := c.chief.Get(1)
		if x.State != chief.Committed {
			t.Fatalf("seed %d: %+v", seed, x)
		}
		for who, b := range c.books {
			sum := int64(0)
			for i, y := range b.Items {
				old := before[who].Items[i]
				theirs, _ := before[old.Seller].Get(old.ID)
				if old.Currency == 1 && theirs.State == item.Agreed {
					old.State, old.Cycle = item.Settled, 1
					sum += old.Amount
					if old.Buyer == who {
						sum -= 2 * old.Amount
					}
				}
				if y != old {
					t.Errorf("seed %d: %d has %+v, want %+v", seed, who, y, old)
				}
			}
			if sum != x.Nets[who] {
				t.Errorf("seed %d: %d has %d to have, by the nets %v", seed, who, sum, x.Nets)
			}
		}
		if elim.Even(0, before...) != elim.Even(0, c.books...) {
			t.Errorf("seed %d: a cycle of 1 changes what there is of 0", seed)
		}
	}
}
