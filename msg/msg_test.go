package msg_test

import (
	"bytes"
	"math"
	"math/big"
	"math/rand"
	"reflect"
	"slices"
	"testing"

	"contra/api"
	"contra/code"
	"contra/item"
	"contra/msg"
)

// most is the greatest number that a message takes.
const most = 1073741824

// full is a message with all that one may have, each number another one.
func full() api.Msg {
	return api.Msg{
		Kind: msg.Prepare, ID: api.ID{Seller: 2, Number: 300}, Buyer: 5, Currency: 7, Round: 3, Cycle: 70000, Amount: -901, Yes: true,
		Lines: []api.Line{line(1, 64, 6, 1000), line(most, 0, 63, math.MinInt64), line(4, most, most, math.MaxInt64)},
		Nets:  []int64{70, -70, 0, math.MinInt64, math.MaxInt64},
	}
}

// line is an item's part in a cycle.
func line(seller, number, buyer int, amount int64) api.Line {
	return api.Line{ID: api.ID{Seller: seller, Number: number}, Buyer: buyer, Amount: amount}
}

// with is the message with some of it otherwise.
func with(m api.Msg, change func(m *api.Msg)) api.Msg {
	m = copied(m)
	change(&m)
	return m
}

// copied is the same message in memory of its own.
func copied(m api.Msg) api.Msg {
	m.Lines, m.Nets = append([]api.Line(nil), m.Lines...), append([]int64(nil), m.Nets...)
	return m
}

// long is a message with as many lines and nets as can be.
func long() api.Msg {
	m := api.Msg{Kind: msg.Prepare, Cycle: 9}
	for i := range 1024 {
		m.Lines = append(m.Lines, line(i%8, i*1023+1, (i+1)%8, int64(i)<<40))
	}
	for i := range 8 {
		m.Nets = append(m.Nets, -int64(i)<<50)
	}
	return m
}

// field is one number of a message.
type field struct {
	name string
	set  func(m *api.Msg, n int)
}

// fields are the numbers that a message has behind its kind, in order.
func fields() []field {
	return []field{
		{"seller", func(m *api.Msg, n int) { m.Seller = n }},
		{"number", func(m *api.Msg, n int) { m.Number = n }},
		{"buyer", func(m *api.Msg, n int) { m.Buyer = n }},
		{"currency", func(m *api.Msg, n int) { m.Currency = n }},
		{"round", func(m *api.Msg, n int) { m.Round = n }},
		{"cycle", func(m *api.Msg, n int) { m.Cycle = n }},
	}
}

// lineFields are the numbers of one of a message's lines.
func lineFields(i int) []field {
	return []field{
		{"line's seller", func(m *api.Msg, n int) { m.Lines[i].Seller = n }},
		{"line's number", func(m *api.Msg, n int) { m.Lines[i].Number = n }},
		{"line's buyer", func(m *api.Msg, n int) { m.Lines[i].Buyer = n }},
	}
}

// number is a number's bytes, as layer 4's words tell them.
func number(n int64) []byte {
	whole := new(big.Int).Mul(big.NewInt(n), big.NewInt(2))
	if n < 0 {
		whole.Neg(whole).Sub(whole, big.NewInt(1))
	}
	var list []byte
	for {
		digit := new(big.Int)
		whole.DivMod(whole, big.NewInt(128), digit)
		if whole.Sign() == 0 {
			return append(list, byte(digit.Int64()))
		}
		list = append(list, byte(digit.Int64())+128)
	}
}

// parts are a message's bytes, piece by piece, as the document's words tell them.
func parts(m api.Msg) [][]byte {
	var list [][]byte
	for _, n := range []int{m.Kind, m.Seller, m.Number, m.Buyer, m.Currency, m.Round, m.Cycle} {
		list = append(list, number(int64(n)))
	}
	yes := byte(0)
	if m.Yes {
		yes = 1
	}
	list = append(list, number(m.Amount), []byte{yes}, number(int64(len(m.Lines))))
	for _, x := range m.Lines {
		list = append(list, number(int64(x.Seller)), number(int64(x.Number)), number(int64(x.Buyer)), number(x.Amount))
	}
	list = append(list, number(int64(len(m.Nets))))
	for _, n := range m.Nets {
		list = append(list, number(n))
	}
	return list
}

// whole are all bytes of a message.
func whole(m api.Msg) []byte { return slices.Concat(parts(m)...) }

// instead are a message's bytes with others in the place of one piece.
func instead(m api.Msg, i int, piece []byte) []byte {
	list := parts(m)
	list[i] = piece
	return slices.Concat(list...)
}

// same: are two messages the same? An empty list may be nil or not.
func same(m, n api.Msg) bool {
	lists := slices.Equal(m.Lines, n.Lines) && slices.Equal(m.Nets, n.Nets)
	m.Lines, m.Nets, n.Lines, n.Nets = nil, nil, nil, nil
	return lists && reflect.DeepEqual(m, n)
}

// zero says that nothing stands beside an error.
func zero(m api.Msg) bool { return same(m, api.Msg{}) }

// writes says what Write answers of a message that can be written.
func writes(t *testing.T, m api.Msg) {
	t.Helper()
	for _, ahead := range []string{"", "a", "\x80\x00b"} {
		want := append([]byte(ahead), whole(m)...)
		if b, e := msg.Write([]byte(ahead), m); !bytes.Equal(b, want) || e != api.OK {
			t.Errorf("Write %q, %+v: %.40v, %v; want %.40v", ahead, m, b, e, want)
		}
	}
	if b, e := msg.Write(nil, m); !bytes.Equal(b, whole(m)) || e != api.OK {
		t.Errorf("Write nil, %+v: %.40v, %v", m, b, e)
	}
}

// refuses says with which error Write answers none.
func refuses(t *testing.T, m api.Msg, want api.Errno) {
	t.Helper()
	for _, ahead := range [][]byte{nil, {}, []byte("ahead")} {
		if b, e := msg.Write(ahead, m); len(b) != 0 || e != want {
			t.Errorf("Write of a %d with %d lines and %d nets: %d bytes, %v; want %v", m.Kind, len(m.Lines), len(m.Nets), len(b), e, want)
		}
	}
}

// reads says what Read, and From with more behind it, answer of bytes that are a message.
func reads(t *testing.T, b []byte, want api.Msg) {
	t.Helper()
	if m, e := msg.Read(b); !same(m, want) || e != api.OK {
		t.Errorf("Read %.40v: %+v, %v; want %+v", b, m, e, want)
	}
	r := code.Read(slices.Concat(b, []byte{200, 3}))
	if m, e := msg.From(r); !same(m, want) || e != api.OK || r.Left() != 2 || r.Err() != api.OK {
		t.Errorf("From %.40v: %+v, %v, %d left, %v", b, m, e, r.Left(), r.Err())
	}
}

// fails says with which error Read and From answer of bytes that are no message's.
func fails(t *testing.T, b []byte, want api.Errno) {
	t.Helper()
	if m, e := msg.Read(b); !zero(m) || e != want {
		t.Errorf("Read %.40v: %+v, %v; want %v", b, m, e, want)
	}
	r := code.Read(b)
	if m, e := msg.From(r); !zero(m) || e != want {
		t.Errorf("From %.40v: %+v, %v; want %v", b, m, e, want)
	}
}

// kinds are the kinds, in their order.
func kinds() []int {
	return []int{msg.Issue, msg.Order, msg.Adjust, msg.Withdraw, msg.Start, msg.Propose, msg.Confirm, msg.Dispute, msg.Cancel, msg.Ask, msg.Offer, msg.Prepare, msg.Vote, msg.Decide, msg.Query, msg.Due}
}

// wild are numbers inside and outside what is taken.
func wild() []int {
	return []int{math.MinInt, math.MinInt + 1, -1 << 31, -most, -2, -1, 0, 1, 7, 8, 16, 17, 63, 64, 1024, 1025, most - 1, most, most + 1, 1 << 31, 1 << 32, math.MaxInt - 1, math.MaxInt}
}

// P11.1
func TestKindsAndLimits(t *testing.T) {
	for i, kind := range kinds() {
		if kind != i+1 {
			t.Errorf("the kind %d is %d", i+1, kind)
		}
	}
	if len(kinds()) != 16 || msg.MaxLines != 1024 || msg.MaxNets != 8 {
		t.Error("kinds or limits are others")
	}
}

// P11.1: the chapter's example.
func TestWriteOfTheExample(t *testing.T) {
	want := []byte{26, 0, 0, 0, 0, 0, 6, 0, 1, 0, 0}
	m := api.Msg{Kind: msg.Vote, Cycle: 3, Yes: true}
	if b, e := msg.Write(nil, m); !bytes.Equal(b, want) || e != api.OK {
		t.Errorf("Write: %v, %v", b, e)
	}
	reads(t, want, m)
}

// P11.1
func TestWriteOfKnownMessages(t *testing.T) {
	for _, c := range []struct {
		m    api.Msg
		want []byte
	}{
		{api.Msg{Kind: msg.Issue}, []byte{2, 0, 0, 0, 0, 0, 0, 0, 0, 0, 0}},
		{api.Msg{Kind: msg.Issue, ID: api.ID{Seller: 1, Number: 2}, Buyer: 3, Currency: 4, Round: 5, Cycle: 6, Amount: -7}, []byte{2, 2, 4, 6, 8, 10, 12, 13, 0, 0, 0}},
		{api.Msg{Kind: msg.Due, Yes: true, Lines: []api.Line{line(1, 64, 2, -1)}, Nets: []int64{70, -70}}, []byte{32, 0, 0, 0, 0, 0, 0, 0, 1, 2, 2, 128, 1, 4, 1, 4, 140, 1, 139, 1}},
		{api.Msg{Kind: msg.Offer, Buyer: most}, []byte{22, 0, 0, 128, 128, 128, 128, 8, 0, 0, 0, 0, 0, 0, 0}},
	} {
		if b, e := msg.Write([]byte{9, 9}, c.m); !bytes.Equal(b, append([]byte{9, 9}, c.want...)) || e != api.OK {
			t.Errorf("Write %+v: %v, %v; want %v", c.m, b, e, c.want)
		}
	}
}

// P11.1
func TestWriteOfEachKind(t *testing.T) {
	for _, kind := range kinds() {
		writes(t, api.Msg{Kind: kind})
		writes(t, with(full(), func(m *api.Msg) { m.Kind = kind }))
		writes(t, with(long(), func(m *api.Msg) { m.Kind = kind }))
	}
	for _, kind := range wild() {
		if kind < 1 || kind > 16 {
			refuses(t, api.Msg{Kind: kind}, api.ErrKind)
			refuses(t, with(full(), func(m *api.Msg) { m.Kind = kind }), api.ErrKind)
		}
	}
}

// P11.1
func TestWriteHoldsLengthsAgainstTheLimits(t *testing.T) {
	for _, kind := range []int{msg.Issue, msg.Prepare, msg.Due} {
		for _, lines := range []int{0, 1, 63, 64, 1023, 1024, 1025, 1026, 5000} {
			for _, nets := range []int{0, 1, 7, 8, 9, 10, 1025} {
				m := api.Msg{Kind: kind, Lines: make([]api.Line, lines), Nets: make([]int64, nets)}
				if lines > 1024 || nets > 8 {
					refuses(t, m, api.ErrLong)
				} else {
					writes(t, m)
				}
			}
		}
	}
}

// P11.1
func TestWriteHoldsEachNumberAgainstItsBounds(t *testing.T) {
	for _, m := range []api.Msg{full(), long()} {
		all := fields()
		for _, i := range []int{0, 1, len(m.Lines) - 1} {
			all = append(all, lineFields(i)...)
		}
		for _, f := range all {
			for _, n := range wild() {
				m := with(m, func(m *api.Msg) { f.set(m, n) })
				if n < 0 || n > most {
					refuses(t, m, api.ErrRange)
				} else if b, e := msg.Write(nil, m); !bytes.Equal(b, whole(m)) || e != api.OK {
					t.Errorf("Write with the %s %d: %v", f.name, n, e)
				}
			}
		}
	}
}

// P11.1
func TestWriteTakesAnyAmount(t *testing.T) {
	for _, n := range []int64{math.MinInt64, math.MinInt64 + 1, -api.MaxAmount - 1, -1, 0, 1, most + 1, api.MaxAmount + 1, math.MaxInt64} {
		m := with(full(), func(m *api.Msg) { m.Amount, m.Lines[1].Amount, m.Nets[2] = n, n, n })
		writes(t, m)
		reads(t, whole(m), m)
	}
}

// P11.1
func TestWriteTellsTheFirstErrorOfSeveral(t *testing.T) {
	kind := func(m *api.Msg) { m.Kind = 17 }
	lines := func(m *api.Msg) { m.Lines = append(m.Lines, make([]api.Line, 1024)...) }
	nets := func(m *api.Msg) { m.Nets = append(m.Nets, make([]int64, 8)...) }
	var ranges []func(m *api.Msg)
	for _, f := range append(fields(), lineFields(2)...) {
		ranges = append(ranges, func(m *api.Msg) { f.set(m, -1) }, func(m *api.Msg) { f.set(m, most+1) })
	}
	for _, outside := range ranges {
		refuses(t, with(full(), outside), api.ErrRange)
		for _, tooLong := range []func(m *api.Msg){lines, nets, func(m *api.Msg) { lines(m); nets(m) }} {
			m := with(with(full(), tooLong), outside)
			refuses(t, m, api.ErrLong)
			refuses(t, with(m, kind), api.ErrKind)
		}
		refuses(t, with(with(full(), outside), kind), api.ErrKind)
	}
	refuses(t, with(with(full(), lines), kind), api.ErrKind)
}

// P11.2
func TestWhatWasWrittenIsRead(t *testing.T) {
	for _, kind := range kinds() {
		for _, m := range []api.Msg{{}, full(), long()} {
			m.Kind = kind
			b, e := msg.Write(nil, m)
			if e != api.OK {
				t.Fatalf("Write: %v", e)
			}
			reads(t, b, m)
			reads(t, whole(m), m)
		}
	}
	for _, f := range append(fields(), lineFields(2)...) {
		for _, n := range []int{0, 1, 63, 64, 1 << 20, most - 1, most} {
			m := with(full(), func(m *api.Msg) { f.set(m, n) })
			reads(t, whole(m), m)
		}
	}
}

// P11.2
func TestFromReadsOneBehindTheOther(t *testing.T) {
	several := []api.Msg{full(), {Kind: msg.Ask}, long(), {Kind: msg.Due, Cycle: 5}, full()}
	var b []byte
	for _, m := range several {
		b, _ = msg.Write(code.Bytes(b, []byte("ahead")), m)
	}
	r := code.Read(b)
	for _, want := range several {
		if list := r.Bytes(); string(list) != "ahead" {
			t.Fatalf("ahead of a message: %q", list)
		}
		if m, e := msg.From(r); !same(m, want) || e != api.OK {
			t.Fatalf("From: %+v, %v; want %+v", m, e, want)
		}
	}
	if r.End() != api.OK {
		t.Errorf("%d left, %v", r.Left(), r.End())
	}
}

// P11.2
func TestReadRefusesWhatEndsTooSoonAndWhatIsLeft(t *testing.T) {
	for _, m := range []api.Msg{{Kind: msg.Vote, Cycle: 3, Yes: true}, full()} {
		b := whole(m)
		for n := range b {
			fails(t, b[:n], api.ErrShort)
		}
		for _, behind := range [][]byte{{0}, {128}, {255, 255}, b} {
			if m, e := msg.Read(slices.Concat(b, behind)); !zero(m) || e != api.ErrForm {
				t.Errorf("Read with more behind it: %+v, %v", m, e)
			}
		}
	}
	b := whole(long())
	for _, n := range []int{0, 1, 11, 12, 13, len(b) / 2, len(b) - 9, len(b) - 1} {
		fails(t, b[:n], api.ErrShort)
	}
}

// P11.2
func TestReadHoldsEachNumberAgainstItsBounds(t *testing.T) {
	// Which pieces of full are numbers: those of the message behind its kind, and of its three lines.
	for _, i := range []int{1, 2, 3, 4, 5, 6, 10, 11, 12, 14, 15, 16, 18, 19, 20} {
		for _, n := range wild() {
			b := instead(full(), i, number(int64(n)))
			if n < 0 || n > most {
				fails(t, b, api.ErrRange)
			} else if m, e := msg.Read(b); e != api.OK || !bytes.Equal(whole(m), b) {
				t.Errorf("Read with %d as the piece %d: %+v, %v", n, i, m, e)
			}
		}
	}
	// How many lines and nets there are.
	for i, last := range map[int]int{9: msg.MaxLines, 22: msg.MaxNets} {
		for _, n := range append(wild(), last+1) {
			if n < 0 || n > last {
				fails(t, instead(full(), i, number(int64(n))), api.ErrRange)
			}
		}
	}
}

// P11.2
func TestReadHoldsLengthsAgainstTheLimits(t *testing.T) {
	for _, c := range []struct {
		lines, nets int
		want        api.Errno
	}{{1024, 8, api.OK}, {1023, 7, api.OK}, {1025, 8, api.ErrRange}, {1024, 9, api.ErrRange}, {0, 9, api.ErrRange}, {1025, 0, api.ErrRange}, {5000, 5000, api.ErrRange}} {
		m := api.Msg{Kind: msg.Offer, Lines: make([]api.Line, c.lines), Nets: make([]int64, c.nets)}
		if c.want == api.OK {
			reads(t, whole(m), m)
		} else {
			fails(t, whole(m), c.want)
		}
	}
}

// P11.2
func TestReadTellsTheReadersFirstError(t *testing.T) {
	wrong := []struct {
		piece []byte
		want  api.Errno
	}{
		{[]byte{128, 0}, api.ErrForm}, {[]byte{255, 128, 0}, api.ErrForm}, {append(bytes.Repeat([]byte{128}, 9), 2), api.ErrForm}, {bytes.Repeat([]byte{255}, 30), api.ErrForm},
	}
	for i := range parts(full()) {
		for _, c := range wrong {
			if i == 8 {
				c.piece = []byte{2}
			}
			fails(t, instead(full(), i, c.piece), c.want)
		}
		if i != 8 {
			fails(t, slices.Concat(append(slices.Clone(parts(full())[:i]), []byte{200})...), api.ErrShort)
		}
	}
	for yes := range 256 {
		b := instead(full(), 8, []byte{byte(yes)})
		if yes > 1 {
			fails(t, b, api.ErrForm)
		} else {
			reads(t, b, with(full(), func(m *api.Msg) { m.Yes = yes == 1 }))
		}
	}
	// Of two errors the one that stands ahead.
	list := parts(full())
	list[3], list[5] = number(-1), []byte{128, 0}
	fails(t, slices.Concat(list...), api.ErrRange)
	list[2] = []byte{128, 0}
	fails(t, slices.Concat(list...), api.ErrForm)
	fails(t, append(slices.Concat(list[:2]...), 128), api.ErrShort)
}

// P11.2
func TestReadOfOtherKinds(t *testing.T) {
	for _, kind := range wild() {
		want := api.ErrKind
		switch {
		case kind >= 1 && kind <= 16:
			continue
		case kind < 0 || kind > most:
			want = api.ErrRange // it is a number, as the others are
		}
		for _, behind := range [][]byte{slices.Concat(parts(full())[1:]...), nil, {128}, {128, 0}, bytes.Repeat([]byte{255}, 40)} {
			b := slices.Concat(number(int64(kind)), behind)
			fails(t, b, want)
			r := code.Read(b)
			msg.From(r)
			if want == api.ErrKind && (r.Left() != len(behind) || r.Err() != api.OK) {
				t.Errorf("behind the kind %d %d bytes are left of %d, %v", kind, r.Left(), len(behind), r.Err())
			}
		}
	}
}

// P11.2
func TestFromOfAReaderThatHasAnError(t *testing.T) {
	for want, spoil := range map[api.Errno]func(r *code.Reader){
		api.ErrForm:  func(r *code.Reader) { r.Bool() },
		api.ErrRange: func(r *code.Reader) { r.Int(0, 1) },
		api.ErrShort: func(r *code.Reader) {
			for r.Err() == api.OK {
				r.Bytes()
			}
		},
	} {
		r := code.Read(whole(api.Msg{Kind: msg.Vote, Cycle: 3, Yes: true}))
		spoil(r)
		if r.Err() == api.OK {
			t.Fatalf("no %v", want)
		}
		want = r.Err()
		if m, e := msg.From(r); !zero(m) || e != want || r.Err() != want {
			t.Errorf("From: %+v, %v; want %v", m, e, want)
		}
	}
}

// P11.2: what is read is a message of which just these bytes are written.
func TestReadAnswersWhatWriteWrites(t *testing.T) {
	right := 0
	for seed := range int64(3000) {
		r := rand.New(rand.NewSource(seed))
		b := whole(random(r))
		for range r.Intn(3) {
			switch i := r.Intn(len(b)); r.Intn(4) {
			case 0:
				b[i] = byte(r.Intn(256))
			case 1:
				b[i] ^= 1 << r.Intn(8)
			case 2:
				b = slices.Insert(b, i, byte(r.Intn(256)))
			case 3:
				b = append(slices.Delete(b, i, i+1), 0)
			}
		}
		m, e := msg.Read(b)
		if e != api.OK {
			if !zero(m) {
				t.Fatalf("seed %d: %+v beside %v", seed, m, e)
			}
			continue
		}
		right++
		if again, e := msg.Write(nil, m); !bytes.Equal(again, b) || e != api.OK {
			t.Fatalf("seed %d: %v is read, %v is written, %v", seed, b, again, e)
		}
	}
	if right < 1000 {
		t.Errorf("only %d were read", right)
	}
}

// random is a message that can be written.
func random(r *rand.Rand) api.Msg {
	m := api.Msg{Kind: 1 + r.Intn(16), Amount: r.Int63() >> r.Intn(63), Yes: r.Intn(2) == 0}
	for _, f := range fields() {
		f.set(&m, r.Intn(most+1)>>r.Intn(31))
	}
	for range r.Intn(4) {
		m.Lines = append(m.Lines, line(r.Intn(8), r.Intn(most+1), r.Intn(8), r.Int63()-r.Int63()))
	}
	for range r.Intn(4) {
		m.Nets = append(m.Nets, r.Int63()-r.Int63())
	}
	return m
}

// sold is an item with each number another one.
func sold() api.Item {
	return api.Item{ID: api.ID{Seller: 1, Number: 2}, Buyer: 3, Currency: 4, Amount: 500, Round: 2, State: item.Agreed, Cycle: 8}
}

// P11.3
func TestAbout(t *testing.T) {
	x := sold()
	for _, kind := range append(wild(), kinds()...) {
		want := api.Msg{Kind: kind, ID: api.ID{Seller: 1, Number: 2}, Buyer: 3, Currency: 4, Round: 2, Amount: 500}
		if m := msg.About(kind, x); !same(m, want) {
			t.Errorf("About %d: %+v, want %+v", kind, m, want)
		}
		if m := msg.About(kind, api.Item{}); !same(m, api.Msg{Kind: kind}) {
			t.Errorf("About %d of the zero item: %+v", kind, m)
		}
	}
	for _, n := range wild() { // of an item that can't be, too
		x := api.Item{ID: api.ID{Seller: n, Number: n}, Buyer: n, Currency: n, Amount: int64(n), Round: n, State: n, Cycle: n}
		if m := msg.About(5, x); !same(m, api.Msg{Kind: 5, ID: x.ID, Buyer: n, Currency: n, Round: n, Amount: int64(n)}) {
			t.Errorf("About of %d: %+v", n, m)
		}
	}
}

// P11.3
func TestItemIsProposed(t *testing.T) {
	for _, kind := range append(wild(), kinds()...) {
		// What else is said doesn't matter.
		m := with(full(), func(m *api.Msg) { m.Kind, m.Amount = kind, 500 })
		want := api.Item{ID: m.ID, Buyer: m.Buyer, Currency: m.Currency, Amount: 500, Round: 3, State: item.Proposed}
		if x, e := msg.Item(m); x != want || e != api.OK {
			t.Errorf("Item of a %d: %+v, %v; want %+v", kind, x, e, want)
		}
	}
	x := sold()
	for round := range item.MaxRound + 1 {
		x.Round, x.State, x.Cycle = round, item.Proposed, 0
		if y, e := msg.Item(msg.About(msg.Propose, x)); y != x || e != api.OK {
			t.Errorf("Item of what is said about it: %+v, %v; want %+v", y, e, x)
		}
	}
}

// P11.3
func TestItemTellsTheErrorOfCheck(t *testing.T) {
	good := msg.About(msg.Propose, sold())
	all := append(fields()[:5], field{"amount", func(m *api.Msg, n int) { m.Amount = int64(n) }})
	for _, f := range all {
		for _, n := range append(wild(), 2, 3, 4, 5, api.MaxNumber, api.MaxNumber+1, api.MaxAmount, api.MaxAmount+1) {
			m := with(good, func(m *api.Msg) { f.set(m, n) })
			want := api.Item{ID: m.ID, Buyer: m.Buyer, Currency: m.Currency, Amount: m.Amount, Round: m.Round, State: item.Proposed}
			wanted := item.Check(want)
			if wanted != api.OK {
				want = api.Item{}
			}
			if x, e := msg.Item(m); x != want || e != wanted {
				t.Errorf("Item with the %s %d: %+v, %v; want %+v, %v", f.name, n, x, e, want, wanted)
			}
		}
	}
	for _, m := range []api.Msg{{}, with(good, func(m *api.Msg) { m.Buyer = m.Seller }), with(good, func(m *api.Msg) { m.Round = 4 }), with(good, func(m *api.Msg) { m.Amount = 0 })} {
		if x, e := msg.Item(m); x != (api.Item{}) || e != api.ErrRange {
			t.Errorf("Item of %+v: %+v, %v", m, x, e)
		}
	}
}

// P11.3
func TestLine(t *testing.T) {
	if x := msg.Line(sold()); x != line(1, 2, 3, 500) {
		t.Errorf("Line: %+v", x)
	}
	if x := msg.Line(api.Item{}); x != (api.Line{}) {
		t.Errorf("Line of the zero item: %+v", x)
	}
	for _, n := range wild() {
		if x := msg.Line(api.Item{ID: api.ID{Seller: n, Number: -n}, Buyer: n, Amount: int64(n), Round: 7, State: n, Cycle: n}); x != line(n, -n, n, int64(n)) {
			t.Errorf("Line of %d: %+v", n, x)
		}
	}
}

// P1
func TestEveryCallEndsAtAllArguments(t *testing.T) {
	several := []api.Msg{{}, full(), long(), with(long(), func(m *api.Msg) { m.Lines = append(m.Lines, m.Lines...) })}
	for _, m := range several {
		for _, n := range wild() {
			for _, f := range fields() {
				m := m
				f.set(&m, n)
				msg.Write(nil, m)
				msg.Item(m)
				m.Kind, m.Amount = n, int64(n)
				msg.Write([]byte("ahead"), m)
				msg.Item(m)
				msg.About(n, api.Item{ID: m.ID, Buyer: n, State: n, Amount: int64(n)})
				msg.Line(api.Item{ID: m.ID, Buyer: n, State: n, Amount: int64(n)})
			}
		}
	}
	for seed := range int64(2000) {
		r := rand.New(rand.NewSource(seed))
		b := make([]byte, r.Intn(60))
		r.Read(b)
		if len(b) > 0 && seed%2 == 0 {
			b[0] = byte(2 + 2*r.Intn(16)) // a kind
		}
		msg.Read(b)
		reader := code.Read(b)
		for range 3 {
			msg.From(reader)
		}
	}
	msg.Read(nil)
}

// P2
func TestWriteLeavesWhatIsHandedIn(t *testing.T) {
	room := bytes.Repeat([]byte{7}, 4000)
	m := full()
	m.Lines, m.Nets = append(make([]api.Line, 0, 50), m.Lines...), append(make([]int64, 0, 50), m.Nets...)
	before := copied(m)
	one, _ := msg.Write(room[:2], m)
	two, _ := msg.Write(room[:2], m)
	msg.Write(room[:2], api.Msg{})
	if !bytes.Equal(room, bytes.Repeat([]byte{7}, 4000)) || !same(m, before) {
		t.Error("what was handed in was changed")
	}
	if lines, nets := m.Lines[:50], m.Nets[:50]; slices.ContainsFunc(lines[3:], func(x api.Line) bool { return x != api.Line{} }) || slices.ContainsFunc(nets[5:], func(n int64) bool { return n != 0 }) {
		t.Error("the lists' spare room was changed")
	}
	want := bytes.Clone(two)
	for _, list := range [][]byte{one[:cap(one)], room} {
		for i := range list {
			list[i] = 99
		}
	}
	if !bytes.Equal(two, want) {
		t.Error("two answers share memory, or one with what was handed in")
	}
}

// P2
func TestWhatIsReadIsNewMemory(t *testing.T) {
	b := whole(long())
	before := bytes.Clone(b)
	r := code.Read(slices.Concat(b, b))
	one, _ := msg.From(r)
	two, _ := msg.From(r)
	three, _ := msg.Read(b)
	if !bytes.Equal(b, before) {
		t.Error("what was handed in was changed")
	}
	clear(b)
	clear(one.Lines[:cap(one.Lines)])
	clear(one.Nets[:cap(one.Nets)])
	if !same(two, long()) || !same(three, long()) {
		t.Error("two answers share memory, or one with what was handed in")
	}
}

// P2
func TestAnswersHangOnTheArgumentsAlone(t *testing.T) {
	for seed := range int64(100) {
		m := random(rand.New(rand.NewSource(seed)))
		one, e := msg.Write(nil, m)
		msg.Write(one, api.Msg{Kind: 99})
		msg.Read([]byte{128, 0})
		msg.Write(one, full())
		two, f := msg.Write(nil, copied(m))
		if !bytes.Equal(one, two) || e != f {
			t.Fatalf("seed %d: %v, %v; then %v, %v", seed, one, e, two, f)
		}
		reads(t, one, m)
		reads(t, one, m)
	}
}
