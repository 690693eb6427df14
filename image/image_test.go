package image_test

import (
	"bytes"
	"fmt"
	"math"
	"math/rand"
	"reflect"
	"slices"
	"testing"

	"contra/api"
	"contra/book"
	"contra/chief"
	"contra/image"
	"contra/item"
	"contra/link"
	"contra/match"
	"contra/msg"
	"contra/state"
	"contra/vote"
)

// group is how many entities most tests are about.
const group = 3

// text tells all that a node is; an empty list may be nil or not.
func text(s state.State) string { return fmt.Sprintf("%+v", s) }

// fresh is a node to which nothing was told.
func fresh(t *testing.T, me, n int, far int64) state.State {
	t.Helper()
	s, e := state.New(me, n, far)
	if e != api.OK {
		t.Fatalf("New %d, %d, %d: %v", me, n, far, e)
	}
	return s
}

// heard is the next thing that a node hears of another one.
func heard(s state.State, from int, m api.Msg) state.Event {
	return state.Event{From: from, Number: s.Links.Peers[from].Heard + 1, Msg: m}
}

// asked is something that a client, or a clock, says.
func asked(m api.Msg) state.Event { return state.Event{From: match.Client, Msg: m} }

// told is the node behind things that a node says, or match.Client, which have to be taken.
func told(t *testing.T, s state.State, from int, list ...api.Msg) state.State {
	t.Helper()
	for _, m := range list {
		x := asked(m)
		if from != match.Client {
			x = heard(s, from, m)
		}
		next, e := s.Apply(x)
		if e != api.OK {
			t.Fatalf("Apply %+v: %v", x, e)
		}
		s = next
	}
	return s
}

// about is a message about an item, of is one about a cycle.
func about(kind, seller, number, buyer, round int, amount int64) api.Msg {
	return api.Msg{Kind: kind, ID: api.ID{Seller: seller, Number: number}, Buyer: buyer, Currency: 1, Round: round, Amount: amount}
}

func of(kind, cycle int) api.Msg { return api.Msg{Kind: kind, Cycle: cycle} }

// traded is 1, which has items in all states that there are without cycles.
func traded(t *testing.T) state.State {
	t.Helper()
	s := fresh(t, 1, group, 5)
	for number := 1; number <= 9; number++ {
		s = told(t, s, match.Client, about(msg.Issue, 1, number, number%2*2, 0, int64(number)*1000))
	}
	s = told(t, s, match.Client, about(msg.Order, 0, 3, 0, 0, 33), about(msg.Order, 2, 4, 0, 0, 44), about(msg.Order, 2, 5, 0, 0, 55), about(msg.Order, 2, 77, 0, 0, api.MaxAmount))
	s = told(t, s, 2, about(msg.Confirm, 1, 1, 0, 0, 0), about(msg.Confirm, 1, 3, 0, 0, 0), about(msg.Dispute, 1, 5, 0, 0, 0), about(msg.Dispute, 1, 7, 0, 0, 0))
	s = told(t, s, match.Client, about(msg.Withdraw, 1, 5, 0, 0, 0))
	s = told(t, s, 2, about(msg.Propose, 2, 4, 1, 0, 40), about(msg.Propose, 2, 5, 1, 0, 40), about(msg.Propose, 2, 5, 1, 1, 55), about(msg.Propose, 2, 6, 1, 0, 9))
	s = told(t, s, 0, about(msg.Propose, 0, 3, 1, 0, 34), about(msg.Propose, 0, 8, 1, 0, 1), about(msg.Cancel, 0, 8, 1, 0, 0), about(msg.Confirm, 1, 99, 0, 0, 0))
	for round := range 4 {
		s = told(t, s, 0, about(msg.Dispute, 1, 2, 0, round, 0))
		if round < 3 {
			s = told(t, s, match.Client, about(msg.Adjust, 1, 2, 0, 0, int64(round)+20))
		}
	}
	s = told(t, s, group, about(msg.Propose, group, 1, 1, 0, 6)) // the coordinator sells something, which nobody can take
	return told(t, s, 0, about(msg.Dispute, 1, 4, 0, 0, 0))
}

// lines are those of the items that it has as agreed.
func lines(s state.State) []api.Line {
	var list []api.Line
	for _, x := range s.Desk.Book.Free(1) {
		list = append(list, msg.Line(x))
	}
	return list
}

// cycled is the same, with parts in all states that there are.
func cycled(t *testing.T) state.State {
	t.Helper()
	s := traded(t)
	ask := api.Msg{Kind: msg.Ask, Currency: 1}
	all := lines(s)
	prepare := api.Msg{Kind: msg.Prepare, Lines: all[:2], Nets: []int64{34, 1000 - 34, -1000}}
	decide := api.Msg{Kind: msg.Decide}
	in := func(n int, list ...api.Msg) {
		t.Helper()
		for _, m := range list {
			m.Cycle = n
			from := group
			if m.Kind == msg.Due {
				from = match.Client
			}
			s = told(t, s, from, m)
		}
	}
	in(9, ask, prepare, api.Msg{Kind: msg.Due}, decide) // undone behind a yes: all is free again
	in(4, ask, prepare)
	decide.Yes = true
	in(4, decide) // done
	decide.Yes = false
	in(7, ask, api.Msg{Kind: msg.Prepare}, api.Msg{Kind: msg.Due}, decide) // undone behind a no
	in(3, ask, decide)                                                     // undone ahead of all
	in(5, ask, api.Msg{Kind: msg.Prepare}, decide)
	prepare.Lines, prepare.Nets = all[2:], []int64{0, 3000 - 40 - 55, 40 + 55 - 3000}
	in(6, ask, prepare, api.Msg{Kind: msg.Due}) // yes
	in(1, ask, api.Msg{Kind: msg.Prepare})      // no
	in(2, ask, api.Msg{Kind: msg.Due}, api.Msg{Kind: msg.Due})
	in(8, api.Msg{Kind: msg.Ask, Currency: 7})
	return s
}

// offers are what all have in a cycle.
func offers() []api.Line {
	return []api.Line{{ID: api.ID{Seller: 0, Number: 1}, Buyer: 1, Amount: 70}, {ID: api.ID{Seller: 1, Number: 1}, Buyer: 0, Amount: 30}}
}

// led is the coordinator, with cycles that came to each end, or to none.
func led(t *testing.T) state.State {
	t.Helper()
	s := fresh(t, group, group, 5)
	yes, no := api.Msg{Kind: msg.Vote, Yes: true}, api.Msg{Kind: msg.Vote}
	in := func(offered int, end ...api.Msg) {
		t.Helper()
		n := len(s.Chief.Runs) + 1
		s = told(t, s, match.Client, api.Msg{Kind: msg.Start, Currency: n % 8})
		for who := range offered {
			s = told(t, s, who, api.Msg{Kind: msg.Offer, Cycle: n, Lines: offers()[:2-who]})
		}
		for who, m := range end {
			m.Cycle = n
			if m.Kind == msg.Due {
				who = match.Client
			}
			s = told(t, s, who, m)
		}
	}
	in(3, yes, yes, yes)
	in(3, no)
	in(3, yes, no)
	in(3, yes, yes, no)
	in(3, yes, api.Msg{Kind: msg.Due})
	in(3, api.Msg{Kind: msg.Due})
	in(2, api.Msg{Kind: msg.Due})
	in(0, api.Msg{Kind: msg.Due})
	in(3, yes, yes)
	in(3)
	in(2)
	in(0)
	in(0, api.Msg{Kind: msg.Due})
	s = told(t, s, 0, of(msg.Query, 1), of(msg.Query, 7), of(msg.Query, 9)) // that one isn't decided
	return told(t, s, 2, of(msg.Query, 1), of(msg.Query, 1))
}

// nodes are such as a node comes to be.
func nodes(t *testing.T) []state.State {
	t.Helper()
	list := []state.State{traded(t), cycled(t), led(t)}
	for n := 1; n <= api.MaxEntity; n++ {
		for me := range n + 1 {
			list = append(list, fresh(t, me, n, 5))
		}
	}
	return append(list, fresh(t, 0, 1, 0), fresh(t, 0, 1, math.MaxInt64))
}

// All that is told of nodes below is told of what is in each state that there is.
func TestNodesHaveAllStates(t *testing.T) {
	states := map[string]bool{}
	for _, s := range nodes(t) {
		for _, x := range s.Desk.Book.Items {
			states[fmt.Sprint("item ", x.State, x.Cycle > 0, x.Seller == s.Me)] = true
		}
		for _, x := range s.Parts.List {
			states[fmt.Sprint("part ", x.State, len(x.Lines) > 0)] = true
		}
		for i, x := range s.Chief.Runs {
			states[fmt.Sprint("run ", x.State, len(x.Nets) > 0, i == len(s.Chief.Runs)-1)] = true
		}
	}
	for _, state := range []string{
		"item 1 false true", "item 2 false true", "item 2 false false", "item 3 false true", "item 3 true true", "item 3 true false",
		"item 4 false true", "item 4 false false", "item 5 true true", "item 5 true false",
		"part 1 false", "part 2 true", "part 3 false", "part 4 true", "part 5 true", "part 5 false",
		"run 1 false false", "run 2 true false", "run 3 true false", "run 4 true false", "run 4 false false",
	} {
		if !states[state] {
			t.Errorf("none has %s: %v", state, states)
		}
	}
}

// written is what Write answers of a node.
func written(t *testing.T, s state.State) []byte {
	t.Helper()
	b, e := image.Write(s)
	if e != api.OK {
		t.Fatalf("Write %s: %v", text(s), e)
	}
	return b
}

// read is the node that has to be read.
func read(t *testing.T, b []byte) state.State {
	t.Helper()
	s, e := image.Read(b)
	if e != api.OK {
		t.Fatalf("Read %v: %v", b, e)
	}
	return s
}

// refuses says that bytes are of no node.
func refuses(t *testing.T, call string, b []byte) {
	t.Helper()
	if s, e := image.Read(b); e == api.OK || !reflect.DeepEqual(s, state.State{}) {
		t.Errorf("Read of %s: %s, %v", call, text(s), e)
	}
}

// P20.1, P20.2: what is read is what was written.
func TestReadOfWrite(t *testing.T) {
	for _, s := range nodes(t) {
		before := text(s)
		b := written(t, s)
		got := read(t, b)
		if text(got) != before || !image.Same(s, got) {
			t.Errorf("Read of Write of %s: %s", before, text(got))
		}
		if !bytes.Equal(written(t, got), b) || !bytes.Equal(written(t, s), b) || text(s) != before {
			t.Errorf("Write of %s, once more", before)
		}
	}
}

// P20.2: told anything more what is read does and says what the other one does.
func TestReadGoesOn(t *testing.T) {
	for i, s := range nodes(t) {
		got := read(t, written(t, s))
		r := rand.New(rand.NewSource(int64(i)))
		for range 200 {
			goesOn(t, r, &s, &got)
		}
	}
}

// goesOn tells two nodes the same thing, at random: they have to do the same.
func goesOn(t *testing.T, r *rand.Rand, s, got *state.State) {
	t.Helper()
	x := anything(r, *s)
	a, e := s.Apply(x)
	b, f := got.Apply(x)
	if e != f || text(a) != text(b) || fmt.Sprint(a.Dues()) != fmt.Sprint(b.Dues()) {
		t.Fatalf("Apply %+v: %s, %v; once read %s, %v", x, text(a), e, text(b), f)
	}
	*s, *got = a, b
}

// P20.1, P20.3: nodes that have come to be the same another way are the same.
func TestTheSameOtherwise(t *testing.T) {
	order := func(number int, amount int64) api.Msg { return about(msg.Order, 0, number, 0, 0, amount) }
	one := told(t, fresh(t, 1, group, 5), match.Client, order(1, 10), order(2, 20), order(3, 30))
	two := told(t, fresh(t, 1, group, 5), match.Client, order(3, 31), order(2, 20), order(1, 10), order(3, 30))
	one = told(t, one, 0, api.Msg{}, of(msg.Ask, 1), about(msg.Propose, 0, 1, 1, 0, 10))
	two = told(t, two, 0, about(msg.Propose, 0, 1, 1, 0, 10), about(msg.Propose, 0, 1, 1, 0, 10), api.Msg{Kind: 99})
	for range 2 {
		if !image.Same(one, two) || !image.Same(two, one) || !bytes.Equal(written(t, one), written(t, two)) {
			t.Errorf("%s isn't %s", text(one), text(two))
		}
		// What no node says, and what isn't there, is the same with lists that are empty, and with none.
		one = told(t, one, group, of(msg.Ask, 1), api.Msg{Kind: msg.Prepare, Cycle: 1, Nets: make([]int64, group)})
		two = told(t, two, group, of(msg.Ask, 1), api.Msg{Kind: msg.Prepare, Cycle: 1, Nets: make([]int64, group), Lines: []api.Line{}})
	}
	one, two = fresh(t, group, group, 5), fresh(t, group, group, 6)
	one = told(t, one, match.Client, of(msg.Start, 0), of(msg.Due, 1))
	two = told(t, two, match.Client, of(msg.Start, 0))
	two = told(t, told(t, two, 2, api.Msg{}), match.Client, of(msg.Due, 1))
	one = told(t, one, 2, api.Msg{})
	if !image.Same(one, two) {
		t.Errorf("%s isn't %s", text(one), text(two))
	}
}

// leaf is a number or a truth of a node, and how one comes to it.
type leaf struct {
	path  string
	value reflect.Value
}

// leaves are all of what stands at x.
func leaves(path string, x reflect.Value) []leaf {
	var list []leaf
	switch x.Kind() {
	case reflect.Struct:
		for i := range x.NumField() {
			list = append(list, leaves(path+"."+x.Type().Field(i).Name, x.Field(i))...)
		}
	case reflect.Slice:
		for i := range x.Len() {
			list = append(list, leaves(path+"[]", x.Index(i))...)
		}
	default:
		list = append(list, leaf{path, x})
	}
	return list
}

// changes are a node with each number and truth changed by hand, one at a time, but those that are the same in all that is of one node among as many.
func changes(t *testing.T, s state.State, each func(path string, changed state.State)) {
	t.Helper()
	known := []string{".Desk.Book.Me", ".Parts.Me", ".Parts.N", ".Chief.N", ".Links.Me"}
	s = read(t, written(t, s)) // in memory of its own
	for _, x := range leaves("", reflect.ValueOf(&s).Elem()) {
		if slices.Contains(known, x.path) {
			continue
		}
		old := reflect.New(x.value.Type()).Elem()
		old.Set(x.value)
		if x.value.Kind() == reflect.Bool {
			x.value.SetBool(!old.Bool())
			each(x.path, s)
		} else {
			for _, by := range []int64{-1, 1, 5, 1 << 40, math.MinInt64} {
				x.value.SetInt(old.Int() + by)
				each(x.path, s)
			}
		}
		x.value.Set(old)
	}
}

// P20.1, P20.3: others have other bytes, whatever it is by which they are others.
func TestOthersHaveOtherBytes(t *testing.T) {
	for _, s := range []state.State{traded(t), cycled(t), led(t)} {
		b, n := written(t, s), 0
		changes(t, s, func(path string, changed state.State) {
			c, e := image.Write(changed)
			if e == api.OK && bytes.Equal(b, c) || image.Same(s, changed) || image.Same(changed, s) {
				t.Errorf("%s counts for nothing", path)
			}
			n++
		})
		if n < 100 {
			t.Errorf("only %d changes", n)
		}
	}
	list := nodes(t)
	for i, s := range list {
		for j, x := range list {
			if image.Same(s, x) != (i == j) {
				t.Errorf("%s and %s: %v", text(s), text(x), i != j)
			}
		}
	}
}

// P20.2: bytes that are of no node are refused, though a node is told in them; of what one node may have been another one may, too.
func TestReadOfWhatNoNodeIs(t *testing.T) {
	free := []string{ // what one may have otherwise, at times
		".Desk.Far", ".Desk.Book.Items[].State", ".Desk.Book.Orders[].ID.Number", ".Desk.Book.Orders[].Amount", ".Parts.List[].Currency",
		".Chief.Runs[].From[].Offered", ".Chief.Runs[].From[].Voted", ".Chief.Runs[].From[].Lines[].ID.Seller", ".Chief.Runs[].From[].Lines[].ID.Number",
		".Chief.Runs[].From[].Lines[].Buyer", ".Chief.Runs[].From[].Lines[].Amount",
		".Links.Peers[].Heard", ".Links.Peers[].Said[].Cycle", ".Links.Peers[].Said[].Amount", ".Links.Peers[].Said[].Yes",
	}
	taken, refused := map[string]int{}, 0
	for _, s := range []state.State{traded(t), cycled(t), led(t)} {
		changes(t, s, func(path string, changed state.State) {
			b, e := image.Write(changed)
			if e != api.OK {
				return
			}
			got, e := image.Read(b)
			switch {
			case e != api.OK:
				refused++
				refuses(t, path, b)
			case text(got) != text(changed) || !slices.Contains(free, path):
				t.Errorf("%s changed by hand: %s is read as %s", path, text(changed), text(got))
			default:
				taken[path]++
			}
		})
	}
	if refused < 1000 || len(taken) < len(free) {
		t.Errorf("%d are refused, and taken %v", refused, taken)
	}
}

// byHand is a node that is changed by hand, in memory of its own.
func byHand(t *testing.T, s state.State, change func(s *state.State)) state.State {
	t.Helper()
	s = read(t, written(t, s))
	change(&s)
	return s
}

// P20.2: likewise where something is there that can't be, or isn't there that has to be.
func TestReadOfWhatIsTooMuchOrTooLittle(t *testing.T) {
	with := func(s *state.State, to int) *link.Peer { return &s.Links.Peers[to] }
	for i, x := range []struct {
		of     state.State
		change func(s *state.State)
	}{
		{traded(t), func(s *state.State) { s.Desk.Book.Items = s.Desk.Book.Items[1:] }},
		{traded(t), func(s *state.State) { s.Desk.Book.Items = append(s.Desk.Book.Items, s.Desk.Book.Items[0]) }},
		{traded(t), func(s *state.State) { slices.Reverse(s.Desk.Book.Items) }},
		{traded(t), func(s *state.State) { s.Desk.Book.Items = nil }},
		{traded(t), func(s *state.State) { s.Desk.Book.Orders = s.Desk.Book.Orders[1:] }},
		{traded(t), func(s *state.State) { slices.Reverse(s.Desk.Book.Orders) }},
		{traded(t), func(s *state.State) { s.Desk.Book.Orders = append(s.Desk.Book.Orders, s.Desk.Book.Orders[3]) }},
		{traded(t), func(s *state.State) {
			s.Desk.Book.Orders = append(s.Desk.Book.Orders, book.Order{ID: api.ID{Seller: group, Number: 1}, Amount: 6})
		}},
		{traded(t), func(s *state.State) { s.Links.Peers = s.Links.Peers[:group] }},
		{traded(t), func(s *state.State) { s.Links.Peers = append(s.Links.Peers, link.Peer{}) }},
		{traded(t), func(s *state.State) { s.Links.Peers = nil }},
		{traded(t), func(s *state.State) { p := with(s, 0); p.Said = p.Said[1:] }},
		{traded(t), func(s *state.State) { p := with(s, 2); p.Said = p.Said[:len(p.Said)-1] }},
		{traded(t), func(s *state.State) { p := with(s, 2); p.Said = append(p.Said, p.Said[0]) }},
		{traded(t), func(s *state.State) { p := with(s, 1); p.Said = append(p.Said, with(s, 2).Said[0]) }},
		{traded(t), func(s *state.State) { with(s, 2).Heard-- }},
		{traded(t), func(s *state.State) { with(s, 2).Heard = 0 }},
		{traded(t), func(s *state.State) { with(s, 1).Heard++ }}, // of itself
		{traded(t), func(s *state.State) { s.Chief.Runs = make([]chief.Run, 1) }},
		{traded(t), func(s *state.State) { s.Parts.List = []vote.Part{{Cycle: 1, Currency: 1, State: vote.Offered}} }},
		{cycled(t), func(s *state.State) { s.Parts.List = s.Parts.List[1:] }},
		{cycled(t), func(s *state.State) { slices.Reverse(s.Parts.List) }},
		{cycled(t), func(s *state.State) { s.Parts.List[3].Lines = nil }},
		{cycled(t), func(s *state.State) { p := with(s, group); p.Said = p.Said[:len(p.Said)-1] }},
		{cycled(t), func(s *state.State) { p := with(s, group); slices.Reverse(p.Said) }},
		{cycled(t), func(s *state.State) { p := with(s, 0); p.Said = append(p.Said, with(s, group).Said[1]) }},
		{cycled(t), func(s *state.State) { with(s, group).Heard-- }},
		{led(t), func(s *state.State) { with(s, 1).Heard-- }},
		{led(t), func(s *state.State) { with(s, group).Heard++ }},
		{led(t), func(s *state.State) { s.Chief.Runs = s.Chief.Runs[1:] }},
		{led(t), func(s *state.State) { s.Chief.Runs = append(s.Chief.Runs, s.Chief.Runs[12]) }},
		{led(t), func(s *state.State) { x := &s.Chief.Runs[0]; x.From = x.From[:2] }},
		{led(t), func(s *state.State) { x := &s.Chief.Runs[0]; x.From = append(x.From, chief.Heard{}) }},
		{led(t), func(s *state.State) { x := &s.Chief.Runs[0]; x.From = append(x.From, x.From[0]) }},
		{led(t), func(s *state.State) { x := &s.Chief.Runs[8]; x.From = append(x.From, x.From[0]) }},
		{led(t), func(s *state.State) { s.Chief.Runs[0].Lines = nil }},
		{led(t), func(s *state.State) { s.Chief.Runs[0].Nets = nil }},
		{led(t), func(s *state.State) { s.Chief.Runs[12].Nets = make([]int64, group) }},
		{led(t), func(s *state.State) { s.Chief.Runs[10].From[2].Offered = true }}, // all have
		{led(t), func(s *state.State) { s.Desk.Book.Orders = make([]book.Order, 1) }},
		{led(t), func(s *state.State) { s.Desk.Far = 5 }},
		{led(t), func(s *state.State) { p := with(s, 0); p.Said = p.Said[:len(p.Said)-3] }},
		{led(t), func(s *state.State) { p := with(s, 2); p.Said = append(p.Said, of(msg.Decide, 9)) }},
		{led(t), func(s *state.State) { p := with(s, group); p.Said = append(p.Said, of(msg.Decide, 8)) }},
	} {
		b := written(t, byHand(t, x.of, x.change))
		refuses(t, fmt.Sprintf("the change %d", i), b)
	}
}

// P20.2: what one node has by chance another one may have otherwise.
func TestReadOfOtherNodes(t *testing.T) {
	s := byHand(t, cycled(t), func(s *state.State) {
		s.Links.Peers[0].Heard += 1 << 40
		s.Desk.Far++
		s.Desk.Book.Orders[3].Amount--
	})
	if got := read(t, written(t, s)); text(got) != text(s) {
		t.Errorf("%s is read as %s", text(s), text(got))
	}
}

// P20.2: bytes that end too soon, or too late, or that are others at one place, are of no node, or of another one.
func TestReadOfOtherBytes(t *testing.T) {
	for _, s := range nodes(t)[:12] {
		b := written(t, s)
		for n := range b {
			refuses(t, "the first bytes", b[:n])
		}
		for x := range 256 {
			refuses(t, "bytes with one more", append(slices.Clone(b), byte(x)))
		}
		refuses(t, "the same twice", slices.Concat(b, b))
		for i := range b {
			for _, by := range []byte{1, 2, 3, 4, 127, 128, 129, 255} {
				c := slices.Clone(b)
				c[i] += by
				reads(t, c)
			}
			reads(t, slices.Delete(slices.Clone(b), i, i+1))
			reads(t, slices.Insert(slices.Clone(b), i, b[i]))
		}
	}
}

// reads reads whatever bytes: they are of no node, or of one whose bytes they are.
func reads(t *testing.T, b []byte) {
	t.Helper()
	kept := slices.Clone(b)
	s, e := image.Read(b)
	switch {
	case e != api.OK && !reflect.DeepEqual(s, state.State{}):
		t.Errorf("Read of %v: %s, %v", b, text(s), e)
	case e == api.OK && !bytes.Equal(written(t, s), b):
		t.Errorf("Read of %v: %s, whose bytes are others", b, text(s))
	}
	if !bytes.Equal(b, kept) {
		t.Errorf("Read has changed %v", kept)
	}
}

// P1: bytes that tell of more than there is, or of nothing.
func TestReadOfAnyBytes(t *testing.T) {
	refuses(t, "nothing", nil)
	many := []byte{254, 255, 255, 255, 255, 255, 255, 255, 127} // 2^62 - 1, or so
	for _, s := range nodes(t)[:12] {
		b := written(t, s)
		for i := range b {
			reads(t, slices.Concat(b[:i], many, b[i+1:]))
			reads(t, slices.Concat(b[:i], many, b[i:], make([]byte, 1<<10)))
		}
	}
	r := rand.New(rand.NewSource(1))
	for range 100000 {
		b := make([]byte, r.Intn(60))
		for i := range b {
			b[i] = byte(r.Intn(1 << (1 + r.Intn(8))))
		}
		reads(t, b)
	}
	for _, n := range []int{1 << 10, 1 << 16, 1 << 20} {
		reads(t, make([]byte, n))
		for place := range 8 { // one long list
			b := append(make([]byte, place), 254, 255, 127)
			b[0] = 2
			reads(t, append(b, make([]byte, n)...))
			reads(t, append(b, bytes.Repeat([]byte{2}, n)...))
		}
	}
}

// P20.1: the error of what can't be written, the first one's, and nothing beside it.
func TestWriteOfWhatCanNotBeWritten(t *testing.T) {
	bad := []struct {
		msg  api.Msg
		want api.Errno
	}{
		{api.Msg{}, api.ErrKind}, {api.Msg{Kind: 17}, api.ErrKind},
		{api.Msg{Kind: msg.Query, Lines: make([]api.Line, msg.MaxLines+1)}, api.ErrLong}, {api.Msg{Kind: msg.Query, Nets: make([]int64, 9)}, api.ErrLong},
		{api.Msg{Kind: msg.Query, Cycle: -1}, api.ErrRange}, {api.Msg{Kind: msg.Query, Round: 1<<30 + 1}, api.ErrRange}, {api.Msg{Kind: msg.Query, Lines: []api.Line{{Buyer: -1}}}, api.ErrRange},
	}
	refused := func(s state.State, want api.Errno) {
		t.Helper()
		if b, e := image.Write(s); len(b) != 0 || e != want {
			t.Errorf("Write: %v, %v; want %v", b, e, want)
		}
		if image.Same(s, s) || image.Same(traded(t), s) || image.Same(s, traded(t)) {
			t.Error("what can't be written is the same")
		}
	}
	for _, x := range bad {
		for _, to := range []int{0, 2, group} {
			refused(byHand(t, cycled(t), func(s *state.State) {
				s.Links.Peers[to].Said = append(s.Links.Peers[to].Said, x.msg)
			}), x.want)
			refused(byHand(t, cycled(t), func(s *state.State) {
				s.Links.Peers[to].Said = append(s.Links.Peers[to].Said, x.msg, api.Msg{Kind: 99})
				s.Links.Peers[group].Said = append(s.Links.Peers[group].Said, bad[6].msg)
			}), x.want)
		}
	}
	if image.Same(cycled(t), traded(t)) || !image.Same(cycled(t), cycled(t)) {
		t.Error("Same")
	}
}

// P20.1, P20.2: as many things as a node may have, and more than a message could tell.
func TestManyThings(t *testing.T) {
	s := fresh(t, 1, group, 5)
	for number := 1; number <= book.MaxOrders; number++ {
		s = told(t, s, match.Client, about(msg.Order, 0, number, 0, 0, int64(number)))
	}
	for number := 1; number <= book.MaxItems/2; number++ {
		s = told(t, s, 0, about(msg.Propose, 0, 2*number, 1, 0, int64(2*number)))
		s = told(t, s, match.Client, about(msg.Issue, 1, number, 2, 0, int64(number)))
	}
	for n := item.MaxCycle; n > item.MaxCycle-9; n-- { // five of them take all
		s = told(t, s, group, api.Msg{Kind: msg.Ask, Cycle: n, Currency: 1})
	}
	for number := 1; number <= book.MaxItems/2; number += 2 {
		s = told(t, s, 2, about(msg.Confirm, 1, number, 2, 0, 0))
	}
	s = told(t, s, group, api.Msg{Kind: msg.Decide, Cycle: item.MaxCycle - 1}, api.Msg{Kind: msg.Ask, Cycle: 1, Currency: 1})
	for len(s.Links.Peers[group].Said) < link.MaxSaid {
		s = told(t, s, match.Client, of(msg.Due, 1))
	}
	if got := read(t, written(t, s)); text(got) != text(s) {
		t.Error("an entity with much is read otherwise")
	}
	var long []api.Line
	for number := 1; number <= 20000; number++ {
		long = append(long, api.Line{ID: api.ID{Seller: 0, Number: number}, Buyer: 1, Amount: api.MaxAmount})
	}
	for _, many := range []int{20000, 9000, msg.MaxLines + 1, msg.MaxLines} {
		s = told(t, fresh(t, 2, 2, 5), match.Client, of(msg.Start, 0))
		for who := range 2 {
			s = told(t, s, who, api.Msg{Kind: msg.Offer, Cycle: 1, Lines: long[:many]})
		}
		if got := read(t, written(t, s)); text(got) != text(s) {
			t.Errorf("a coordinator to which %d lines were offered is read otherwise", many)
		}
	}
}

// P2: what is handed in is neither changed nor kept; what is answered is new memory.
func TestNothingIsShared(t *testing.T) {
	for _, s := range nodes(t)[:12] {
		before := text(s)
		b := written(t, s)
		kept := slices.Clone(b)
		whole := append(make([]byte, 0, len(b)+9), b...)
		got := read(t, whole)
		for i := range whole[:cap(whole)] {
			whole[:cap(whole)][i] = 99
		}
		if text(got) != before {
			t.Errorf("%s has changed with its bytes to %s", before, text(got))
		}
		one := read(t, kept)
		for _, x := range leaves("", reflect.ValueOf(&one).Elem()) {
			if x.value.Kind() != reflect.Bool {
				x.value.SetInt(x.value.Int() + 1)
			}
		}
		if text(got) != before || text(s) != before || text(read(t, kept)) != before {
			t.Errorf("%s has changed with another one that was read", before)
		}
		for i := range b[:cap(b)] {
			b[:cap(b)][i] = 99
		}
		if !bytes.Equal(written(t, s), kept) || text(s) != before {
			t.Errorf("the bytes of %s have changed with others", before)
		}
	}
}
