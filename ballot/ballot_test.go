package ballot

import (
	"math"
	"slices"
	"testing"

	"colloquy/api"
)

// The limits are written out here, so that a wrong one of the package is seen.
const (
	mostReplica = 7
	mostNumber  = 1 << 30
)

func at(n, by int) api.Ballot {
	return api.Ballot{N: n, By: by}
}

// numbers and owners are rising, at every edge, also wrong ones and those whose differences wrap round.
func numbers() []int {
	return []int{math.MinInt, math.MinInt + 1, -mostNumber, -2, -1, 0, 1, 2, 300, mostNumber - 1, mostNumber, mostNumber + 1, math.MaxInt - 1, math.MaxInt}
}

func owners() []int {
	return []int{math.MinInt, -1, 0, 1, 2, 3, 4, 5, 6, 7, 8, 9, mostNumber, math.MaxInt}
}

// rising are ballots of all numbers and owners, each one less than the next by the words of the chapter.
func rising() []api.Ballot {
	var l []api.Ballot
	for _, n := range numbers() {
		for _, by := range owners() {
			l = append(l, at(n, by))
		}
	}
	return l
}

// sign is how the place i stands to the place k.
func sign(i, k int) int {
	switch {
	case i < k:
		return -1
	case i > k:
		return 1
	}
	return 0
}

func TestMay(t *testing.T) { // P7.1
	for _, b := range []api.Ballot{{}, at(0, 1), at(0, 7), at(1, 1), at(1, 4), at(300, 2), at(mostNumber-1, 1), at(mostNumber, 1), at(mostNumber, 7)} {
		if !May(b) {
			t.Errorf("%v may not be", b)
		}
	}
	for _, b := range []api.Ballot{at(1, 0), at(mostNumber, 0), at(-1, 0), at(0, -1), at(0, 8), at(1, 8), at(1, -1), at(-1, 1), at(-1, 7), at(mostNumber+1, 1),
		at(mostNumber+1, 0), at(-1, -1), at(math.MinInt, 1), at(math.MaxInt, 1), at(0, math.MinInt), at(0, math.MaxInt), at(math.MinInt, math.MinInt), at(math.MaxInt, math.MaxInt)} {
		if May(b) {
			t.Errorf("%v may be", b)
		}
	}
}

func TestMayOfAll(t *testing.T) { // P7.1
	for _, b := range rising() {
		none := b.N == 0 && b.By == 0
		want := none || b.N >= 0 && b.N <= mostNumber && b.By >= 1 && b.By <= mostReplica
		if May(b) != want {
			t.Errorf("%v: %v", b, !want)
		}
	}
}

func TestCmpExamples(t *testing.T) { // P7.1
	for _, x := range []struct {
		a, b api.Ballot
		want int
	}{
		{at(1, 3), at(1, 2), 1},
		{at(1, 3), at(0, 7), 1},
		{at(1, 3), at(1, 3), 0},
		{api.Ballot{}, api.Ballot{}, 0},
		{api.Ballot{}, at(0, 1), -1},
		{at(0, 7), at(1, 1), -1}, // the number goes ahead of whose it is
		{at(2, 1), at(1, 7), 1},
		{at(0, -1), api.Ballot{}, -1},
		{at(-1, 7), api.Ballot{}, -1},
		{at(math.MinInt, 1), at(math.MaxInt, 1), -1}, // a difference would wrap round
		{at(1, math.MinInt), at(1, math.MaxInt), -1},
	} {
		if Cmp(x.a, x.b) != x.want || Cmp(x.b, x.a) != -x.want {
			t.Errorf("%v and %v: %d %d, want %d", x.a, x.b, Cmp(x.a, x.b), Cmp(x.b, x.a), x.want)
		}
	}
}

func TestOrderIsTotal(t *testing.T) { // P7.1, P7.3: the order is that of the places of a rising list, so it is one of all ballots
	l := rising()
	for i, a := range l {
		for k, b := range l {
			if got := Cmp(a, b); got != sign(i, k) {
				t.Errorf("%v and %v: %d", a, b, got)
			}
		}
	}
}

func TestFirst(t *testing.T) { // P7.2: of whoever it is asked
	for _, by := range owners() {
		if b := First(by); b.N != 0 || b.By != by {
			t.Errorf("of %d: %v", by, b)
		}
		if May(First(by)) != (by >= 0 && by <= mostReplica) {
			t.Errorf("of %d: %v", by, May(First(by)))
		}
	}
	if First(0) != (api.Ballot{}) {
		t.Error("of nobody")
	}
}

func TestNextExamples(t *testing.T) { // P7.2
	for _, x := range []struct {
		b    api.Ballot
		by   int
		want api.Ballot
		is   bool
	}{
		{at(0, 7), 2, at(1, 2), true},
		{api.Ballot{}, 1, at(1, 1), true},
		{at(4, 3), 3, at(5, 3), true},
		{at(4, 3), 7, at(5, 7), true},
		{at(mostNumber-1, 7), 1, at(mostNumber, 1), true},
		{at(mostNumber, 1), 2, api.Ballot{}, false},
		{at(mostNumber+1, 1), 2, api.Ballot{}, false},
		{at(math.MaxInt, 1), 2, api.Ballot{}, false},
		{at(-1, 1), 2, api.Ballot{}, false},
		{at(math.MinInt, 1), 2, api.Ballot{}, false},
		{at(1, 1), 0, api.Ballot{}, false},
		{at(1, 1), 8, api.Ballot{}, false},
		{at(1, 1), -1, api.Ballot{}, false},
		{at(1, 1), math.MaxInt, api.Ballot{}, false},
		{at(1, 1), math.MinInt, api.Ballot{}, false},
		{at(1, 8), 2, at(2, 2), true}, // whose b is, is not asked
		{at(1, 0), 2, at(2, 2), true},
		{at(1, math.MinInt), 2, at(2, 2), true},
	} {
		if b, is := Next(x.b, x.by); b != x.want || is != x.is {
			t.Errorf("%v for %d: %v %v, want %v %v", x.b, x.by, b, is, x.want, x.is)
		}
	}
}

func TestNextOfAll(t *testing.T) { // P7.2
	for _, b := range rising() {
		for _, by := range owners() {
			want, wantIs := api.Ballot{}, false
			if by >= 1 && by <= mostReplica && b.N >= 0 && b.N < mostNumber {
				want, wantIs = at(b.N+1, by), true
			}
			if next, is := Next(b, by); next != want || is != wantIs {
				t.Errorf("%v for %d: %v %v, want %v %v", b, by, next, is, want, wantIs)
			}
		}
	}
}

func TestMostExamples(t *testing.T) { // P7.2
	for _, x := range []struct {
		l    []api.Ballot
		want api.Ballot
	}{
		{nil, api.Ballot{}},
		{[]api.Ballot{}, api.Ballot{}},
		{[]api.Ballot{{}}, api.Ballot{}},
		{[]api.Ballot{at(1, 2)}, at(1, 2)},
		{[]api.Ballot{at(1, 2), at(1, 3), at(0, 7)}, at(1, 3)},
		{[]api.Ballot{at(1, 3), at(1, 2)}, at(1, 3)},
		{[]api.Ballot{at(0, 7), {}, at(0, 6), at(0, 7)}, at(0, 7)},
		{[]api.Ballot{at(1, 7), at(2, 1)}, at(2, 1)},
		{[]api.Ballot{at(-1, 3)}, at(-1, 3)}, // noughts are not among them
		{[]api.Ballot{at(0, -1), at(-1, 7)}, at(0, -1)},
		{[]api.Ballot{at(-2, 7), at(-1, -7), at(-1, -8)}, at(-1, -7)},
		{[]api.Ballot{at(math.MinInt, math.MinInt)}, at(math.MinInt, math.MinInt)},
		{[]api.Ballot{at(math.MaxInt, 0), at(math.MinInt, 0)}, at(math.MaxInt, 0)},
		{[]api.Ballot{at(1, 8), at(1, 7)}, at(1, 8)},
	} {
		if m := Most(x.l...); m != x.want {
			t.Errorf("%v: %v, want %v", x.l, m, x.want)
		}
	}
}

func TestMostOfAll(t *testing.T) { // P7.2: the greatest one may stand anywhere
	l := rising()
	for end := 1; end <= len(l); end++ {
		for _, turn := range []int{0, 1, end / 3, end / 2, end - 1} {
			turned := append(slices.Clone(l[turn%end:end]), l[:turn%end]...)
			back := slices.Clone(turned)
			slices.Reverse(back)
			if Most(turned...) != l[end-1] || Most(back...) != l[end-1] || Most(append(turned, back...)...) != l[end-1] {
				t.Fatalf("of the first %d, turned by %d", end, turn)
			}
		}
	}
	for i, a := range l {
		for k, b := range l {
			if Most(a, b) != l[max(i, k)] {
				t.Errorf("%v and %v: %v", a, b, Most(a, b))
			}
		}
	}
}

func TestMostOfMany(t *testing.T) { // P7.2, P1
	l := slices.Repeat([]api.Ballot{at(1, 2), at(-1, 9), {}}, 1<<16)
	l[1<<16] = at(1, 3)
	if m := Most(l...); m != at(1, 3) {
		t.Error(m)
	}
}

func TestNextIsGreaterAndOfItsOwn(t *testing.T) { // P7.3
	for _, b := range rising() {
		for _, by := range owners() {
			next, is := Next(b, by)
			if !is {
				continue
			}
			if Cmp(next, b) != 1 || Cmp(b, next) != -1 || Most(b, next) != next {
				t.Errorf("%v for %d: %v is not greater", b, by, next)
			}
			if next.By != by || !May(next) || next == (api.Ballot{}) {
				t.Errorf("%v for %d: %v", b, by, next)
			}
		}
	}
}

func TestNoTwoReplicasHaveTheSame(t *testing.T) { // P7.3: each one goes on from whatever it was told of by any
	whose := map[api.Ballot]int{}
	told := []api.Ballot{{}}
	for by := 1; by <= mostReplica; by++ {
		whose[First(by)] = by
		told = append(told, First(by))
	}
	for range 20 {
		var heard []api.Ballot
		for _, b := range told {
			for by := 1; by <= mostReplica; by++ {
				next, is := Next(b, by)
				if !is {
					t.Fatalf("none above %v", b)
				}
				if owner, there := whose[next]; there && owner != by {
					t.Fatalf("%v is of %d and of %d", next, owner, by)
				}
				whose[next] = by
				heard = append(heard, next)
			}
		}
		slices.SortFunc(heard, Cmp)
		told = slices.Compact(heard)
	}
	if len(whose) != 21*mostReplica {
		t.Error(len(whose))
	}
}

func TestListStaysAsItWas(t *testing.T) { // R3, R5
	l := []api.Ballot{at(1, 2), at(3, 4), {}, at(-1, 9)}
	want := slices.Clone(l)
	first := Most(l...)
	Most(l[:2]...)
	if !slices.Equal(l, want) || Most(l...) != first || first != at(3, 4) {
		t.Errorf("%v: %v", l, first)
	}
	l[1] = api.Ballot{}
	if Most(l...) != at(1, 2) || Most(l[:0]...) != (api.Ballot{}) { // what stands behind a list's end is not of it
		t.Errorf("%v: %v", l, Most(l...))
	}
}
