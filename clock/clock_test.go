package clock_test

import (
	"fmt"
	"math"
	"math/rand"
	"reflect"
	"slices"
	"strconv"
	"testing"
	"unsafe"

	"contra/api"
	"contra/clock"
)

// sets sets a name, which has to be taken.
func sets(t *testing.T, c *clock.Clock, name string, later int) {
	t.Helper()
	if e := c.Set(name, later); e != api.OK {
		t.Fatalf("Set %q, %d: %v", name, later, e)
	}
}

// refuses says that a name isn't set, and that nothing has changed by it.
func refuses(t *testing.T, c *clock.Clock, name string, later int, want api.Errno) {
	t.Helper()
	at, found := c.When(name)
	now, n := c.Now(), c.Len()
	if e := c.Set(name, later); e != want {
		t.Errorf("Set %q, %d: %v, want %v", name, later, e, want)
	}
	is(t, c, name, at, found)
	tells(t, c, now, n)
}

// drops drops a name, and holds the answer against the one that is wanted.
func drops(t *testing.T, c *clock.Clock, name string, want api.Errno) {
	t.Helper()
	if e := c.Drop(name); e != want {
		t.Errorf("Drop %q: %v, want %v", name, e, want)
	}
	is(t, c, name, 0, false)
}

// is says when a name is due.
func is(t *testing.T, c *clock.Clock, name string, at int, found bool) {
	t.Helper()
	if a, f := c.When(name); a != at || f != found {
		t.Errorf("When %q: %d, %v; want %d, %v", name, a, f, at, found)
	}
}

// tells says what time it is, and how many names are due.
func tells(t *testing.T, c *clock.Clock, now, n int) {
	t.Helper()
	if c.Now() != now || c.Len() != n {
		t.Errorf("now %d, %d due; want %d, %d", c.Now(), c.Len(), now, n)
	}
}

// ticks says what the next Tick answers.
func ticks(t *testing.T, c *clock.Clock, want ...string) {
	t.Helper()
	now, n := c.Now(), c.Len()
	if names := c.Tick(); !slices.Equal(names, want) {
		t.Errorf("Tick to %d: %q, want %q", now+1, names, want)
	}
	tells(t, c, now+1, n-len(want))
	for _, name := range want {
		is(t, c, name, 0, false)
	}
}

// full is a clock with as many names as can be due: each, a number, in 1 and that.
func full(t *testing.T) *clock.Clock {
	t.Helper()
	c := clock.New()
	for i := range clock.MaxDues {
		sets(t, c, strconv.Itoa(i), 1+i)
	}
	return c
}

// P8.1
func TestNewIsAtTheTimeNought(t *testing.T) {
	if clock.MaxDues != 4096 || clock.MaxTime != 1099511627776 {
		t.Errorf("%d, %d", clock.MaxDues, clock.MaxTime)
	}
	c := clock.New()
	tells(t, c, 0, 0)
	for _, name := range []string{"", "a", "\xff"} {
		is(t, c, name, 0, false)
	}
	for range 5 {
		ticks(t, c)
	}
	tells(t, c, 5, 0)
}

// P8.1, P8.2
func TestWhenAndLen(t *testing.T) {
	c := clock.New()
	long := string(make([]byte, 100000))
	for i, name := range []string{"", "a", "A", "a ", "\xff\xfe", "\x00", "€", long, long + "a"} {
		is(t, c, name, 0, false)
		sets(t, c, name, 7+i)
		is(t, c, name, 7+i, true)
		tells(t, c, 0, i+1)
	}
	ticks(t, c)
	is(t, c, "a", 8, true)
	is(t, c, "b", 0, false)
	sets(t, c, "b", 1)
	is(t, c, "b", 2, true)
	ticks(t, c, "b")
	tells(t, c, 2, 9)
}

// P8.2
func TestSetHoldsLaterAgainstItsBounds(t *testing.T) {
	c := clock.New()
	sets(t, c, "there", 7)
	for now := range 5 {
		for _, later := range []int{0, -1, -2, math.MinInt, math.MinInt + 1, clock.MaxTime - now + 1, clock.MaxTime + 1, math.MaxInt - now, math.MaxInt - 1, math.MaxInt} {
			refuses(t, c, "there", later, api.ErrRange)
			refuses(t, c, "new", later, api.ErrRange)
		}
		for _, later := range []int{1, 2, clock.MaxTime - now - 1, clock.MaxTime - now} {
			sets(t, c, "in bounds", later)
			is(t, c, "in bounds", now+later, true)
		}
		ticks(t, c)
	}
	is(t, c, "there", 7, true)
	ticks(t, c)
	ticks(t, c, "there")
}

// P8.2
func TestSetRefusesOneTooMany(t *testing.T) {
	c := full(t)
	tells(t, c, 0, clock.MaxDues)
	for _, name := range []string{"new", "", "00"} {
		refuses(t, c, name, 1, api.ErrFull)
		refuses(t, c, name, clock.MaxTime, api.ErrFull)
		refuses(t, c, name, 0, api.ErrRange)
		refuses(t, c, name, clock.MaxTime+1, api.ErrRange)
	}
	sets(t, c, "5", 1)
	sets(t, c, "6", 9999)
	tells(t, c, 0, clock.MaxDues)
	drops(t, c, "0", api.OK)
	sets(t, c, "new", 1)
	refuses(t, c, "0", 1, api.ErrFull)
	ticks(t, c, "5", "new")
	sets(t, c, "0", 1)
	sets(t, c, "5", 1)
	refuses(t, c, "new", 1, api.ErrFull)
	ticks(t, c, "1", "0", "5")
	for i := 3; i <= clock.MaxDues; i++ {
		if name := strconv.Itoa(i - 1); i == 6 || i == 7 {
			ticks(t, c)
		} else {
			ticks(t, c, name)
		}
	}
	tells(t, c, clock.MaxDues, 1)
	is(t, c, "6", 9999, true)
}

// P8.2
func TestSetIsInThePlaceOfWhatWas(t *testing.T) {
	c := clock.New()
	sets(t, c, "a", 3)
	sets(t, c, "b", 3)
	sets(t, c, "a", 1)
	tells(t, c, 0, 2)
	is(t, c, "a", 1, true)
	ticks(t, c, "a")
	sets(t, c, "b", 5)
	is(t, c, "b", 6, true)
	tells(t, c, 1, 1)
	ticks(t, c)
	ticks(t, c)
	sets(t, c, "a", 3)
	ticks(t, c)
	ticks(t, c)
	ticks(t, c, "b", "a")
	ticks(t, c)
}

// P8.2, P8.3
func TestSetCountsAsSetBehindAllOthers(t *testing.T) {
	c := clock.New()
	for _, name := range []string{"a", "b", "c", "d", "e"} {
		sets(t, c, name, 2)
	}
	sets(t, c, "b", 2) // to the same time, too
	sets(t, c, "d", 9)
	sets(t, c, "d", 2)
	refuses(t, c, "a", 0, api.ErrRange)
	drops(t, c, "c", api.OK)
	sets(t, c, "c", 2)
	ticks(t, c)
	sets(t, c, "e", 1)
	sets(t, c, "0", 1)
	ticks(t, c, "a", "b", "d", "c", "e", "0")
}

// P8.2
func TestDrop(t *testing.T) {
	c := clock.New()
	drops(t, c, "", api.ErrMissing)
	drops(t, c, "a", api.ErrMissing)
	for i, name := range []string{"a", "", "c", "d", "e", "f", "g"} {
		sets(t, c, name, 1+i/3)
	}
	drops(t, c, "", api.OK)
	drops(t, c, "", api.ErrMissing)
	drops(t, c, "b", api.ErrMissing)
	tells(t, c, 0, 6)
	drops(t, c, "g", api.OK)
	ticks(t, c, "a", "c")
	drops(t, c, "a", api.ErrMissing)
	drops(t, c, "d", api.OK)
	tells(t, c, 1, 2)
	ticks(t, c, "e", "f")
	drops(t, c, "e", api.ErrMissing)
	ticks(t, c)
	tells(t, c, 3, 0)
}

// P8.3
func TestTickTellsWhatIsDueInOrder(t *testing.T) {
	c := clock.New()
	sets(t, c, "a", 2)
	sets(t, c, "b", 1)
	ticks(t, c, "b")
	ticks(t, c, "a")
	ticks(t, c)
	for _, i := range []int{5, 3, 9, 1, 4, 8, 2, 7, 6, 0} {
		sets(t, c, fmt.Sprint("y", i), 2)
		sets(t, c, fmt.Sprint("x", i), 1+i%3)
	}
	ticks(t, c, "x3", "x9", "x6", "x0")
	ticks(t, c, "y5", "y3", "y9", "y1", "x1", "y4", "x4", "y8", "y2", "y7", "x7", "y6", "y0")
	ticks(t, c, "x5", "x8", "x2")
	ticks(t, c)
}

// P8.3
func TestATickTellsAllThatAreDueAtOnce(t *testing.T) {
	c := clock.New()
	var want []string
	for i := range clock.MaxDues {
		name := strconv.Itoa(i * 7919 % clock.MaxDues)
		sets(t, c, name, 2)
		want = append(want, name)
	}
	ticks(t, c)
	ticks(t, c, want...)
	tells(t, c, 2, 0)
}

// late is a clock at a time to which Ticks would take too long: where it keeps the time it is set by hand.
func late(t *testing.T, now int) *clock.Clock {
	t.Helper()
	c := clock.New()
	field := reflect.ValueOf(c).Elem().FieldByName("now")
	if !field.IsValid() || field.Kind() != reflect.Int {
		t.Skip("a clock keeps its time otherwise")
	}
	*(*int)(unsafe.Pointer(field.UnsafeAddr())) = now
	return c
}

// P8.2, P8.3
func TestTheLastTime(t *testing.T) {
	c := late(t, clock.MaxTime-2)
	refuses(t, c, "a", 3, api.ErrRange)
	refuses(t, c, "a", math.MaxInt, api.ErrRange)
	sets(t, c, "a", 2)
	sets(t, c, "b", 1)
	ticks(t, c, "b")
	refuses(t, c, "b", 2, api.ErrRange)
	refuses(t, c, "a", 2, api.ErrRange)
	sets(t, c, "b", 1)
	ticks(t, c, "a", "b")
	for range 3 {
		if names := c.Tick(); len(names) != 0 {
			t.Errorf("Tick at the last time: %q", names)
		}
		tells(t, c, clock.MaxTime, 0)
		refuses(t, c, "a", 1, api.ErrRange)
		refuses(t, c, "a", 0, api.ErrRange)
		drops(t, c, "a", api.ErrMissing)
	}
}

// model is a clock, as the document's words tell it: what was set, in that order.
type model struct {
	now   int
	names []string
	at    []int
}

func (m *model) drop(name string) api.Errno {
	i := slices.Index(m.names, name)
	if i < 0 {
		return api.ErrMissing
	}
	m.names, m.at = slices.Delete(m.names, i, i+1), slices.Delete(m.at, i, i+1)
	return api.OK
}

func (m *model) set(name string, later int) api.Errno {
	if later < 1 || later > clock.MaxTime-m.now {
		return api.ErrRange
	}
	m.drop(name)
	m.names, m.at = append(m.names, name), append(m.at, m.now+later)
	return api.OK
}

func (m *model) tick() []string {
	m.now++
	var due []string
	for i, name := range m.names {
		if m.at[i] == m.now {
			due = append(due, name)
		}
	}
	for _, name := range due {
		m.drop(name)
	}
	return due
}

// P8.1, P8.2, P8.3
func TestClocksAreAsTheDocumentTells(t *testing.T) {
	for seed := range int64(200) {
		r := rand.New(rand.NewSource(seed))
		c, m := clock.New(), &model{}
		far := 2 + r.Intn(30)
		for step := range 400 {
			name, later := string(rune('a'+r.Intn(26))), r.Intn(far)-1
			var e, want api.Errno
			var names, due []string
			switch act := r.Intn(10); {
			case act < 6:
				e, want = c.Set(name, later), m.set(name, later)
			case act < 7:
				e, want = c.Drop(name), m.drop(name)
			default:
				names, due = c.Tick(), m.tick()
			}
			if e != want || !slices.Equal(names, due) || c.Now() != m.now || c.Len() != len(m.names) {
				t.Fatalf("seed %d, step %d: %v, %q, %d, %d; want %v, %q, %+v", seed, step, e, names, c.Now(), c.Len(), want, due, *m)
			}
			for i, name := range m.names {
				is(t, c, name, m.at[i], true)
			}
		}
	}
}

// P1
func TestEveryCallEndsAtAllArguments(t *testing.T) {
	names := []string{"", "a", "\xff", "\x00", "€", string(make([]byte, 1<<20))}
	numbers := []int{math.MinInt, math.MinInt + 1, -1, 0, 1, 2, clock.MaxDues, clock.MaxTime - 1, clock.MaxTime, clock.MaxTime + 1, math.MaxInt - 1, math.MaxInt}
	for _, c := range []*clock.Clock{clock.New(), full(t)} {
		for range 3 {
			for _, name := range names {
				c.Drop(name)
				c.When(name)
				for _, later := range numbers {
					c.Set(name, later)
					c.When(name)
					c.Len()
					c.Now()
				}
				c.Tick()
				c.Drop(name)
				c.Set(name, 1)
			}
			c.Tick()
		}
	}
}

// P2
func TestARefusedCallChangesNothing(t *testing.T) {
	c := clock.New()
	for _, name := range []string{"a", "b", "c"} {
		sets(t, c, name, 1)
	}
	refuses(t, c, "a", 0, api.ErrRange)
	refuses(t, c, "a", clock.MaxTime+1, api.ErrRange)
	drops(t, c, "d", api.ErrMissing)
	ticks(t, c, "a", "b", "c")
	c = full(t)
	refuses(t, c, "new", 1, api.ErrFull)
	refuses(t, c, "0", -1, api.ErrRange)
	drops(t, c, "new", api.ErrMissing)
	for i := range clock.MaxDues {
		ticks(t, c, strconv.Itoa(i))
	}
}

// P2
func TestWhatIsAnsweredIsNewMemory(t *testing.T) {
	c := clock.New()
	for i, name := range []string{"a", "b", "c", "d", "e"} {
		sets(t, c, name, 1+i/3)
	}
	one := c.Tick()
	all := one[:cap(one)]
	for i := range all {
		all[i] = "x"
	}
	is(t, c, "d", 2, true)
	two := c.Tick()
	clear(all)
	if !slices.Equal(two, []string{"d", "e"}) {
		t.Errorf("two answers share memory: %q", two)
	}
}

// P2
func TestClocksShareNothing(t *testing.T) {
	a, b := clock.New(), clock.New()
	sets(t, a, "a", 1)
	ticks(t, a, "a")
	sets(t, a, "a", 1)
	is(t, b, "a", 0, false)
	tells(t, b, 0, 0)
	sets(t, b, "b", 1)
	ticks(t, b, "b")
	tells(t, a, 1, 1)
}
