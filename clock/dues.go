package clock

import "cmp"

// due is a name, and when it is due.
type due struct {
	name  string
	at    int
	set   int // which of all sets it was set by: of one time the earlier one is ahead
	place int // where it stands in the heap
}

// dues is a heap (of container/heap) of what is due: the soonest is its first.
type dues []*due

func (l dues) Len() int { return len(l) }

func (l dues) Less(i, j int) bool {
	return cmp.Or(cmp.Compare(l[i].at, l[j].at), cmp.Compare(l[i].set, l[j].set)) < 0
}

func (l dues) Swap(i, j int) {
	l[i], l[j] = l[j], l[i]
	l[i].place, l[j].place = i, j
}

func (l *dues) Push(x any) {
	d := x.(*due)
	d.place = len(*l)
	*l = append(*l, d)
}

func (l *dues) Pop() any {
	last := len(*l) - 1
	x := (*l)[last]
	(*l)[last] = nil // so that its room doesn't keep it
	*l = (*l)[:last]
	return x
}
