package attr

import (
	"math"
	"slices"
	"testing"

	"colloquy/api"
)

// The limits are written out here, so that a wrong one of the package is seen.
const (
	mostReplica = 7
	mostSlot    = 1 << 20
	mostNumber  = 1 << 30
)

func at(seq int, deps ...int) api.Attr {
	return api.Attr{Seq: seq, Deps: deps}
}

// samples are attributes of few numbers and lengths, many of which are within each other, none below 0.
func samples() []api.Attr {
	l := []api.Attr{{}, {Deps: []int{}}, at(mostNumber, mostSlot, mostSlot), at(math.MaxInt, math.MaxInt), at(2, make([]int, 20)...)}
	for _, seq := range []int{0, 1, 2} {
		l = append(l, at(seq), at(seq, 0), at(seq, 1), at(seq, 3), at(seq, 0, 0, 0), at(seq, 0, 1), at(seq, 1, 0),
			at(seq, 1, 3), at(seq, 3, 1), at(seq, 0, 5, 0), at(seq, 1, 0, 3), at(seq, 2, 2, 2, 2, 2, 2, 2), at(seq, 0, 0, 0, 0, 0, 0, 0, 0, 4))
	}
	return l
}

// below are attributes with numbers below 0.
func below() []api.Attr {
	return []api.Attr{at(-1), at(math.MinInt), at(0, -1), at(1, 3, -2), at(-1, -1, 2, -1), at(2, math.MinInt, math.MaxInt, 0, -7), at(-5, 0, 0, 0), at(0, 0, 0, -1)}
}

// depOf is what the chapter's words say of a replica's dep.
func depOf(a api.Attr, replica int) int {
	for i, dep := range a.Deps {
		if i+1 == replica {
			return dep
		}
	}
	return 0
}

// mostDeps is above every length of the attributes here.
const mostDeps = 24

// equal asks for every number and for the length, other than Same.
func equal(a, b api.Attr) bool {
	return a.Seq == b.Seq && slices.Equal(a.Deps, b.Deps)
}

func TestMay(t *testing.T) { // P6.1
	for n := 1; n <= mostReplica; n++ {
		for _, seq := range []int{0, 1, 300, mostNumber - 1, mostNumber} {
			for _, dep := range []int{0, 1, 60, mostSlot - 1, mostSlot} {
				for place := range n {
					a := at(seq, make([]int, n)...)
					a.Deps[place] = dep
					if !May(a, n) {
						t.Errorf("%v among %d", a, n)
					}
				}
			}
		}
	}
	if !May(at(mostNumber, slices.Repeat([]int{mostSlot}, mostReplica)...), mostReplica) {
		t.Error("the greatest one")
	}
}

func TestMayNotOfReplicas(t *testing.T) { // P6.1: n, and how many deps there are
	for size := range mostReplica + 3 {
		for _, n := range []int{math.MinInt, -1, 0, 1, 2, 3, 4, 5, 6, 7, 8, 9, 10, math.MaxInt} {
			want := n == size && n >= 1 && n <= mostReplica
			if May(at(1, make([]int, size)...), n) != want {
				t.Errorf("%d deps among %d: %v", size, n, !want)
			}
		}
	}
	if May(api.Attr{}, 0) || May(api.Attr{}, 1) {
		t.Error("noughts")
	}
}

func TestMayNotOfNumbers(t *testing.T) { // P6.1
	for n := 1; n <= mostReplica; n++ {
		for _, seq := range []int{math.MinInt, -1, mostNumber + 1, math.MaxInt} {
			if May(at(seq, make([]int, n)...), n) {
				t.Errorf("%d among %d", seq, n)
			}
		}
		for _, dep := range []int{math.MinInt, -1, mostSlot + 1, mostNumber, math.MaxInt} {
			for place := range n {
				a := at(1, make([]int, n)...)
				a.Deps[place] = dep
				if May(a, n) {
					t.Errorf("%v among %d", a, n)
				}
			}
		}
	}
}

func TestMergeExamples(t *testing.T) { // P6.2
	for _, x := range []struct {
		l    []api.Attr
		want api.Attr
	}{
		{[]api.Attr{at(2, 1, 0, 3), at(1, 0, 5)}, at(2, 1, 5, 3)},
		{[]api.Attr{at(1, 0, 5), at(2, 1, 0, 3)}, at(2, 1, 5, 3)},
		{[]api.Attr{at(1, 2, 3), at(9, 2, 2), at(4, 0, 7)}, at(9, 2, 7)},
		{nil, api.Attr{}},
		{[]api.Attr{{}}, api.Attr{}},
		{[]api.Attr{{}, {Deps: []int{}}, {}}, api.Attr{}},
		{[]api.Attr{at(4, 1, 2)}, at(4, 1, 2)},
		{[]api.Attr{at(0, 0, 0, 0)}, at(0, 0, 0, 0)}, // noughts at the end have their places
		{[]api.Attr{at(0, 1), at(3), at(0, 0, 0)}, at(3, 1, 0)},
		{[]api.Attr{at(-1)}, at(0)},
		{[]api.Attr{at(-1, -1, -2)}, at(0, 0, 0)},
		{[]api.Attr{at(-3, -1, 4), at(-2, -2, -9, -1)}, at(0, 0, 4, 0)},
		{[]api.Attr{at(math.MinInt, math.MinInt), at(math.MaxInt, math.MaxInt)}, at(math.MaxInt, math.MaxInt)},
		{[]api.Attr{at(1, make([]int, 9)...), at(2, mostSlot+1)}, at(2, mostSlot+1, 0, 0, 0, 0, 0, 0, 0, 0)},
	} {
		if m := Merge(x.l...); !equal(m, x.want) {
			t.Errorf("%v: %v, want %v", x.l, m, x.want)
		}
	}
}

func TestMergeOfAll(t *testing.T) { // P6.2: of every three
	all := append(samples(), below()...)
	for _, a := range all {
		for _, b := range all {
			for _, c := range []api.Attr{{}, a, at(1, 0, 2), at(-1, -1, -1, -1), at(0, 9, 0, 0, 0, 9)} {
				m := Merge(a, b, c)
				if m.Seq != max(0, a.Seq, b.Seq, c.Seq) || len(m.Deps) != max(len(a.Deps), len(b.Deps), len(c.Deps)) {
					t.Errorf("%v, %v and %v: %v", a, b, c, m)
				}
				for r := 1; r <= len(m.Deps); r++ {
					if m.Deps[r-1] != max(0, depOf(a, r), depOf(b, r), depOf(c, r)) {
						t.Errorf("%v, %v and %v: %v, the dep of %d", a, b, c, m, r)
					}
				}
			}
		}
	}
}

func TestMergeOfMany(t *testing.T) { // P6.2, P1: a long one among many short ones
	long := at(1, make([]int, 1<<16)...)
	long.Deps[1<<16-1] = 5
	l := append(slices.Repeat([]api.Attr{at(2, 1)}, 1<<16), long, at(3, 0, 8))
	m := Merge(l...)
	if m.Seq != 3 || len(m.Deps) != 1<<16 || m.Deps[0] != 1 || m.Deps[1] != 8 || m.Deps[1<<16-1] != 5 {
		t.Error(m.Seq, len(m.Deps))
	}
}

func TestCompareExamples(t *testing.T) { // P6.3
	for _, x := range []struct {
		a, b       api.Attr
		in, around bool // a within b, b within a
	}{
		{at(1, 0, 5), at(1, 0, 5), true, true},
		{at(1, 0, 5), at(1, 0, 5, 0), true, true}, // who has no place has the dep 0
		{api.Attr{}, at(0, 0, 0), true, true},
		{at(1, 0, 5), at(2, 0, 5), true, false},
		{at(1, 0, 5), at(1, 0, 6), true, false},
		{at(1, 0, 5), at(1, 0, 5, 1), true, false},
		{at(1, 0, 5), at(2, 1, 4), false, false},
		{at(1, 6), at(2, 5), false, false},
		{at(1, 0, 1), at(1, 1, 0), false, false},
		{at(2, 1), at(1, 2), false, false},
		{at(1, 1), at(1, 0, 1), false, false},
		{at(1, 0, 0, 0, 0, 0, 0, 0, 3), at(1, 7, 7, 7, 7, 7, 7, 7), false, false},
		{at(0), at(math.MaxInt), true, false},
		{at(math.MinInt, math.MinInt), at(math.MaxInt, math.MaxInt), true, false},
		{at(-1), at(0), true, false}, // below 0 is not 0 here
		{at(0, -1), at(0), true, false},
		{at(0, 2, -1), at(0, 2, 0), true, false},
		{at(0, -1), at(0, -1), true, true},
		{at(-2, -1), at(-1, -2), false, false},
	} {
		if Within(x.a, x.b) != x.in || Within(x.b, x.a) != x.around {
			t.Errorf("%v and %v: within %v %v", x.a, x.b, Within(x.a, x.b), Within(x.b, x.a))
		}
		same := x.in && x.around
		if Same(x.a, x.b) != same || Same(x.b, x.a) != same {
			t.Errorf("%v and %v: the same %v %v", x.a, x.b, Same(x.a, x.b), Same(x.b, x.a))
		}
	}
}

func TestCompareOfAll(t *testing.T) { // P6.3: of every two, by the deps of each replica
	all := append(samples(), below()...)
	for _, a := range all {
		for _, b := range all {
			same, in := a.Seq == b.Seq, a.Seq <= b.Seq
			for r := 1; r <= mostDeps; r++ {
				same = same && depOf(a, r) == depOf(b, r)
				in = in && depOf(a, r) <= depOf(b, r)
			}
			if Same(a, b) != same || Within(a, b) != in {
				t.Errorf("%v and %v: %v %v, want %v %v", a, b, Same(a, b), Within(a, b), same, in)
			}
		}
	}
}

func TestWaits(t *testing.T) { // P6.3
	a := at(2, 1, 5, 0, mostSlot, -3, math.MaxInt)
	for _, x := range []struct {
		by, slot int
		want     bool
	}{
		{1, 1, true}, {1, 2, false}, {1, 0, false}, {1, -1, false},
		{2, 1, true}, {2, 4, true}, {2, 5, true}, {2, 6, false}, {2, 0, false}, {2, math.MinInt, false}, {2, math.MaxInt, false},
		{3, 0, false}, {3, 1, false},
		{4, mostSlot, true}, {4, mostSlot + 1, false},
		{5, -3, false}, {5, -4, false}, {5, 0, false}, {5, 1, false},
		{6, math.MaxInt, true},
		{7, 0, false}, {7, 1, false}, {8, 1, false}, {math.MaxInt, 1, false}, {math.MaxInt, 0, false},
		{0, 0, false}, {0, 1, false}, {-1, 1, false}, {math.MinInt, 1, false}, {math.MinInt, 0, false},
	} {
		if Waits(a, api.Inst{By: x.by, Slot: x.slot}) != x.want {
			t.Errorf("%d.%d: %v", x.by, x.slot, !x.want)
		}
	}
	for _, i := range []api.Inst{{}, {By: 1}, {By: 1, Slot: 1}, {Slot: 1}} {
		if Waits(api.Attr{}, i) || Waits(at(mostNumber), i) {
			t.Errorf("noughts wait for %v", i)
		}
	}
	if !Waits(at(0, 0, 0, 0, 0, 0, 0, 0, 0, 4), api.Inst{By: 9, Slot: 4}) { // a place above those that may be is one too
		t.Error("9.4")
	}
}

func TestWaitsOfAll(t *testing.T) { // P6.3
	for _, a := range append(samples(), below()...) {
		for by := -2; by < mostDeps; by++ {
			for slot := -2; slot < 8; slot++ {
				want := slot >= 1 && slot <= depOf(a, by)
				if Waits(a, api.Inst{By: by, Slot: slot}) != want {
					t.Errorf("%v, %d.%d: %v", a, by, slot, !want)
				}
			}
		}
	}
}

func TestMergeAsksForNoOrder(t *testing.T) { // P6.4: nor how often, nor whether some were merged ahead
	all := append(samples(), below()...)
	for _, a := range all {
		if m := Merge(a); !equal(Merge(a, a), m) || !equal(Merge(m), m) || !equal(Merge(a, m, a), m) {
			t.Errorf("%v more than once", a)
		}
		for i, b := range all {
			c := all[(i*7+3)%len(all)]
			m := Merge(a, b, c)
			for _, l := range [][]api.Attr{{a, c, b}, {b, a, c}, {b, c, a}, {c, a, b}, {c, b, a}, {a, b, a, c, b}, {c, c, c, b, a}, {Merge(a, b), c}, {a, Merge(b, c)}, {m, b}} {
				if !equal(Merge(l...), m) {
					t.Errorf("%v: %v, want %v", l, Merge(l...), m)
				}
			}
		}
	}
}

func TestMergeIsTheLeastAround(t *testing.T) { // P6.4: nothing of it is below 0, so nothing of what it is within is, either
	all := append(samples(), below()...)
	for _, a := range all {
		for _, b := range all {
			m := Merge(a, b)
			if !Within(a, m) || !Within(b, m) {
				t.Errorf("%v and %v: not within %v", a, b, m)
			}
			for _, around := range samples() {
				if Within(a, around) && Within(b, around) != Within(m, around) {
					t.Errorf("%v and %v within %v, %v: %v", a, b, around, m, Within(m, around))
				}
			}
		}
	}
}

func TestWhoWaitsWaitsByWhatItIsWithin(t *testing.T) { // P6.4
	all := append(samples(), below()...)
	for _, a := range all {
		for _, b := range all {
			m := Merge(a, b)
			for by := range mostDeps {
				for slot := range 8 {
					i := api.Inst{By: by, Slot: slot}
					if Within(a, b) && Waits(a, i) && !Waits(b, i) {
						t.Errorf("%v within %v: %v", a, b, i)
					}
					if Waits(m, i) != (Waits(a, i) || Waits(b, i)) {
						t.Errorf("%v and %v merged: %v", a, b, i)
					}
				}
			}
		}
	}
}

func TestSharesNothing(t *testing.T) { // R3
	l := []api.Attr{at(2, 1, 0, 3), at(1, 0, 5), at(-1, -1)}
	want := []api.Attr{at(2, 1, 0, 3), at(1, 0, 5), at(-1, -1)}
	m, own := Merge(l...), Merge(l[0])
	May(l[0], 3)
	Same(l[0], l[1])
	Within(l[0], l[1])
	Waits(l[0], api.Inst{By: 1, Slot: 1})
	if !slices.EqualFunc(l, want, equal) {
		t.Errorf("the list was changed: %v", l)
	}
	clear(m.Deps)
	clear(own.Deps)
	_ = append(m.Deps[:1], 9)
	if !slices.EqualFunc(l, want, equal) {
		t.Errorf("the answer is of the list: %v", l)
	}
	m = Merge(l...)
	clear(l[0].Deps)
	if !equal(m, at(2, 1, 5, 3)) {
		t.Errorf("the list is of the answer: %v", m)
	}
}

func TestLengthsOfTheirOwn(t *testing.T) { // R3: what stands behind a list's end is not of it
	room := []int{1, 2, 9, 9}
	a, b := api.Attr{Seq: 1, Deps: room[:2]}, at(1, 1, 2, 0)
	if !Same(a, b) || Waits(a, api.Inst{By: 3, Slot: 1}) || !equal(Merge(a, b), b) || May(a, 4) || !May(a, 2) {
		t.Error("more than the list was asked")
	}
	if !slices.Equal(room, []int{1, 2, 9, 9}) {
		t.Error(room)
	}
}
