package graph

import (
	"math"
	"slices"
	"testing"

	"colloquy/api"
)

// most is how many things there may be, written out here, so that a wrong number of the package is seen.
const most = 100

// edges are those from each first number to the one behind it.
func edges(l ...int) []api.Edge {
	var out []api.Edge
	for i := 0; i+1 < len(l); i += 2 {
		out = append(out, api.Edge{From: l[i], To: l[i+1]})
	}
	return out
}

// parts are lists, of which the numbers below 0 are the ends.
func parts(l ...int) [][]int {
	out := [][]int{nil}
	for _, thing := range l {
		if thing < 0 {
			out = append(out, nil)
		} else {
			out[len(out)-1] = append(out[len(out)-1], thing)
		}
	}
	return out
}

func upTo(n int) []int {
	out := make([]int, n)
	for i := range out {
		out[i] = i
	}
	return out
}

// each are lists of one thing each.
func each(l []int) [][]int {
	var out [][]int
	for _, thing := range l {
		out = append(out, []int{thing})
	}
	return out
}

func plainN(n int) int {
	switch {
	case n < 0:
		return 0
	case n > most:
		return most
	}
	return n
}

func plainThing(n, thing int) bool {
	return thing >= 0 && thing < plainN(n)
}

// plainEdges are the edges between things, each once.
func plainEdges(n int, l []api.Edge) map[api.Edge]int {
	out := map[api.Edge]int{}
	for _, e := range l {
		if plainThing(n, e.From) && plainThing(n, e.To) {
			out[e]++
		}
	}
	return out
}

// plainReach tells of each two things whether the one reaches the other one: a way by 0 to k is one by 0 to k - 1, or two of those that meet in k.
func plainReach(n int, l []api.Edge) [most][most]bool {
	var out [most][most]bool
	for i := range plainN(n) {
		out[i][i] = true
	}
	for e := range plainEdges(n, l) {
		out[e.From][e.To] = true
	}
	for k := range plainN(n) {
		for i := range plainN(n) {
			for j := range plainN(n) {
				out[i][j] = out[i][j] || out[i][k] && out[k][j]
			}
		}
	}
	return out
}

// plainComponents is what the chapter's words say: again and again the component of the least thing that may be told.
func plainComponents(n int, l []api.Edge) [][]int {
	reach, waits := plainReach(n, l), plainEdges(n, l)
	told := map[int]int{}
	var out [][]int
	for len(told) < plainN(n) {
		for thing := range plainN(n) {
			if told[thing] > 0 {
				continue
			}
			var part []int
			for other := range plainN(n) {
				if reach[thing][other] && reach[other][thing] {
					part = append(part, other)
				}
			}
			free := true
			for e := range waits {
				free = free && !(slices.Contains(part, e.From) && !slices.Contains(part, e.To) && told[e.To] == 0)
			}
			if free {
				out = append(out, part)
				for _, other := range part {
					told[other]++
				}
				break
			}
		}
	}
	return out
}

func equal(a, b [][]int) bool {
	return slices.EqualFunc(a, b, slices.Equal[[]int])
}

// check ends a test at its first fault, as some of them ask thousands of times.
func check(t *testing.T, n int, l []api.Edge, want [][]int) {
	t.Helper()
	if got := Components(n, l); !equal(got, want) {
		t.Fatalf("of %d, %v: %v, want %v", n, l, got, want)
	}
}

// checkClosure asks for what a thing reaches, and of each thing, and of some that are none, whether it is reached.
func checkClosure(t *testing.T, n int, l []api.Edge, from int, want []int) {
	t.Helper()
	if got := Closure(n, l, from); !slices.Equal(got, want) {
		t.Fatalf("of %d, %v, from %d: %v, want %v", n, l, from, got, want)
	}
	for to := -2; to <= plainN(n)+1; to++ {
		if got := Reaches(n, l, from, to); got != slices.Contains(want, to) {
			t.Fatalf("of %d, %v, from %d to %d: %v", n, l, from, to, got)
		}
	}
}

// checkAll holds all answers against those of the chapter's words.
func checkAll(t *testing.T, n int, l []api.Edge) {
	t.Helper()
	check(t, n, l, plainComponents(n, l))
	reach := plainReach(n, l)
	for from := -1; from <= plainN(n); from++ {
		var want []int
		for to := range plainN(n) {
			if plainThing(n, from) && reach[from][to] {
				want = append(want, to)
			}
		}
		checkClosure(t, n, l, from, want)
	}
}

// dice are numbers that are the same in each run.
type dice uint32

func (d *dice) below(n int) int {
	*d = *d*1664525 + 1013904223
	return int(*d>>8) % n
}

// some are so many edges between n things.
func (d *dice) some(n, count int) []api.Edge {
	out := make([]api.Edge, count)
	for i := range out {
		out[i] = api.Edge{From: d.below(n), To: d.below(n)}
	}
	return out
}

// wrong are numbers that are no things of some numbers of things, or of all.
func wrong() []int {
	return []int{math.MinInt, math.MinInt + 1, -1 << 32, -100, -2, -1, 4, 5, 99, 100, 101, 255, 256, 257, 1 << 16, 1 << 32, 1<<32 + 1, math.MaxInt - 1, math.MaxInt}
}

func TestExamples(t *testing.T) { // P11.2
	check(t, 3, edges(0, 1, 1, 0, 2, 1), parts(0, 1, -1, 2))
	check(t, 3, edges(0, 2), parts(1, -1, 2, -1, 0))
}

func TestReaches(t *testing.T) { // P11.1
	l := edges(0, 1, 1, 2, 3, 0, 4, 4)
	for i, want := range [][]int{{1, 1, 1, 0, 0, 0}, {0, 1, 1, 0, 0, 0}, {0, 0, 1, 0, 0, 0}, {1, 1, 1, 1, 0, 0}, {0, 0, 0, 0, 1, 0}, {0, 0, 0, 0, 0, 1}} {
		for k, is := range want {
			if Reaches(6, l, i, k) != (is == 1) {
				t.Errorf("%d to %d", i, k)
			}
		}
	}
	for _, x := range wrong() { // nothing that is no thing reaches, or is reached, also if it is the same, or edges lead there
		l := edges(0, x, x, 1, x, x, 0, 2)
		for i := range 3 {
			if Reaches(3, l, x, i) || Reaches(3, l, i, x) {
				t.Errorf("%d is no thing, with %d", x, i)
			}
		}
		if Reaches(3, l, x, x) || Reaches(3, l, 0, 1) || !Reaches(3, l, 0, 2) {
			t.Errorf("%d is no thing", x)
		}
	}
}

func TestClosure(t *testing.T) { // P11.1
	for _, x := range []struct {
		n, from int
		l       []api.Edge
		want    []int
	}{
		{4, 0, nil, []int{0}},
		{4, 3, nil, []int{3}},
		{4, 3, edges(3, 0), []int{0, 3}},
		{4, 0, edges(3, 0), []int{0}},
		{4, 2, edges(2, 2), []int{2}},
		{4, 0, edges(0, 3, 0, 2, 0, 1), []int{0, 1, 2, 3}},
		{5, 2, edges(2, 4, 4, 0, 0, 3), []int{0, 2, 3, 4}},
		{5, 4, edges(4, 3, 3, 2, 2, 1, 1, 0), []int{0, 1, 2, 3, 4}},
		{5, 4, edges(1, 0, 2, 1, 3, 2, 4, 3), []int{0, 1, 2, 3, 4}},
		{4, 1, edges(0, 1, 1, 2, 2, 0, 3, 0), []int{0, 1, 2}},
		{6, 0, edges(0, 1, 0, 2, 1, 3, 2, 3, 3, 4, 5, 4), []int{0, 1, 2, 3, 4}},
		{6, 0, edges(0, 3, 3, 4, 0, 1, 1, 2, 2, 5), []int{0, 1, 2, 3, 4, 5}},
		{4, 4, edges(4, 0, 0, 4), nil},
		{4, -1, edges(-1, 0, 0, -1), nil},
		{0, 0, edges(0, 0), nil},
		{-1, 0, edges(0, 0), nil},
		{-1, -1, edges(-1, -1), nil},
	} {
		checkClosure(t, x.n, x.l, x.from, x.want)
	}
	for _, x := range wrong() {
		checkClosure(t, 3, edges(0, x, x, 1, x, x, 0, 2), x, nil)
		checkClosure(t, 3, edges(0, x, x, 1, x, x, 0, 2), 0, []int{0, 2})
	}
}

func TestComponents(t *testing.T) { // P11.2
	for _, x := range []struct {
		n    int
		l    []api.Edge
		want [][]int
	}{
		{1, nil, parts(0)},
		{1, edges(0, 0), parts(0)},
		{2, edges(0, 1), parts(1, -1, 0)},
		{2, edges(1, 0), parts(0, -1, 1)},
		{2, edges(1, 0, 0, 1), parts(0, 1)},
		{4, edges(0, 2), parts(1, -1, 2, -1, 0, -1, 3)},                                                           // 0 goes ahead of 3, as soon as it may
		{4, edges(0, 3), parts(1, -1, 2, -1, 3, -1, 0)},                                                           // not right ahead of who waits for it
		{4, edges(0, 1, 1, 2, 2, 3), parts(3, -1, 2, -1, 1, -1, 0)},                                               // a chain, from its end
		{4, edges(0, 3, 3, 0, 3, 2), parts(1, -1, 2, -1, 0, 3)},                                                   // any thing of a component may hold it up
		{4, edges(3, 1, 1, 3), parts(0, -1, 1, 3, -1, 2)},                                                         // the least thing tells, and they rise
		{5, edges(4, 2, 2, 0, 0, 4), parts(0, 2, 4, -1, 1, -1, 3)},                                                // a ring
		{5, edges(0, 1, 1, 2, 2, 0, 3, 4, 4, 3, 0, 3), parts(3, 4, -1, 0, 1, 2)},                                  // one ring waits for another one
		{5, edges(0, 1, 1, 2, 2, 0, 3, 4, 4, 3, 3, 0), parts(0, 1, 2, -1, 3, 4)},                                  // the other way round
		{5, edges(0, 1, 1, 0, 1, 2, 2, 1, 3, 4), parts(0, 1, 2, -1, 4, -1, 3)},                                    // two rings with a thing in common
		{6, edges(5, 0, 0, 5, 1, 4, 4, 1, 0, 1), parts(1, 4, -1, 0, 5, -1, 2, -1, 3)},                             // of greater ones first
		{6, edges(0, 4, 0, 5, 1, 5), parts(2, -1, 3, -1, 4, -1, 5, -1, 0, -1, 1)},                                 // 0 waits for two
		{6, edges(1, 3, 2, 3, 3, 0, 3, 5), parts(0, -1, 4, -1, 5, -1, 3, -1, 1, -1, 2)},                           // two wait for one, that waits for two
		{8, edges(0, 1, 1, 0, 2, 3, 3, 2, 4, 5, 5, 4, 0, 2, 2, 4), parts(4, 5, -1, 2, 3, -1, 0, 1, -1, 6, -1, 7)}, // pairs, in a chain
		{3, edges(0, 2, 0, 2, 0, 2, 2, 2), parts(1, -1, 2, -1, 0)},                                                // often the same, and itself
	} {
		check(t, x.n, x.l, x.want)
	}
}

func TestEndsThatAreNoThings(t *testing.T) { // P11.1, P11.2: edges with such ends are passed over
	for _, x := range wrong() {
		check(t, 4, edges(0, x, x, 1, x, 2, 1, x, x, x), parts(0, -1, 1, -1, 2, -1, 3))
		check(t, 4, edges(0, x, 0, 2, x, 0, 2, x), parts(1, -1, 2, -1, 0, -1, 3))
		for _, y := range wrong() {
			check(t, 4, edges(x, y, 0, 1, y, x), parts(1, -1, 0, -1, 2, -1, 3))
		}
	}
}

func TestHowManyThings(t *testing.T) { // P11.1, P11.2: n counts as one from 0 to 100
	for _, n := range []int{math.MinInt, -1 << 32, -101, -100, -1, 0} {
		for _, l := range [][]api.Edge{nil, edges(0, 0, 0, 1), edges(-1, -1)} {
			check(t, n, l, nil)
			for thing := -2; thing < 3; thing++ {
				checkClosure(t, n, l, thing, nil)
			}
		}
	}
	for n := 1; n <= most; n++ {
		check(t, n, nil, each(upTo(n)))
		checkClosure(t, n, edges(0, n-1, n-1, n, n, 0), n, nil)
		checkClosure(t, n, edges(0, n), 0, []int{0})
	}
	for _, n := range []int{100, 101, 102, 200, 256, 1 << 16, 1 << 32, 1<<32 + 3, math.MaxInt} {
		check(t, n, nil, each(upTo(most)))
		check(t, n, edges(0, 99, 1, 100, 100, 2), append(each(upTo(most)[1:]), []int{0}))
		checkClosure(t, n, edges(0, 99, 99, 100, 100, 1), 0, []int{0, 99})
		checkClosure(t, n, edges(100, 0, 0, 100), 100, nil)
	}
	check(t, 99, edges(0, 99, 99, 0), each(upTo(99)))
}

func TestAllOfThree(t *testing.T) { // P11.1, P11.2, P11.3: each set of edges
	for set := range 1 << 9 {
		var l []api.Edge
		for i := range 9 {
			if set>>i&1 == 1 {
				l = append(l, api.Edge{From: i / 3, To: i % 3})
			}
		}
		checkAll(t, 3, l)
	}
}

func TestAllOfFour(t *testing.T) { // P11.2, P11.3: each set of edges from one thing to another one
	for set := range 1 << 12 {
		var l []api.Edge
		for i := range 12 {
			if set>>i&1 == 1 {
				l = append(l, api.Edge{From: i / 3, To: (i/3 + 1 + i%3) % 4})
			}
		}
		check(t, 4, l, plainComponents(4, l))
	}
}

func TestAnything(t *testing.T) { // P1, P11.1, P11.2, R5: of anything at all, twice
	d := dice(1)
	for range 2000 {
		n := 1 + d.below(12)
		l := d.some(n, d.below(2*n))
		for i := range l {
			if d.below(6) == 0 {
				l[i].From = wrong()[d.below(len(wrong()))]
			}
			if d.below(6) == 0 {
				l[i].To = wrong()[d.below(len(wrong()))]
			}
		}
		checkAll(t, n, l)
		checkAll(t, n, l)
	}
	for _, n := range []int{30, 99, 100, 101} {
		for _, count := range []int{n / 2, n, 2 * n, 4 * n} {
			checkAll(t, n, d.some(n, count))
		}
	}
	for _, n := range wrong() {
		for _, x := range wrong() {
			l := edges(x, 0, 0, x, n, x, x, n)
			check(t, n, l, plainComponents(n, l))
			Closure(n, l, x)
			Reaches(n, l, x, n)
		}
	}
}

func TestInWhateverOrderEdgesCome(t *testing.T) { // P11.1, P11.2: and however often
	d := dice(2)
	for range 300 {
		n := 1 + d.below(20)
		l := d.some(n, d.below(2*n))
		want := Components(n, l)
		other := slices.Concat(l, l)
		for i := range other {
			k := d.below(len(other))
			other[i], other[k] = other[k], other[i]
		}
		check(t, n, other, want)
		slices.Reverse(other)
		check(t, n, other, want)
		for from := range n {
			checkClosure(t, n, other, from, Closure(n, l, from))
		}
	}
}

func TestWhoWaitsIsBehind(t *testing.T) { // P11.3
	d := dice(3)
	for range 1000 {
		n := d.below(most + 1)
		l := d.some(n+1, d.below(2*n+1)) // some ends are n, which is no thing
		home := map[int]int{}
		for i, part := range Components(n, l) {
			if len(part) == 0 {
				t.Fatalf("of %d, %v: nothing is told", n, l)
			}
			for _, thing := range part {
				if _, is := home[thing]; is || !plainThing(n, thing) {
					t.Fatalf("of %d, %v: %d is told twice, or is no thing", n, l, thing)
				}
				home[thing] = i
			}
		}
		if len(home) != n {
			t.Fatalf("of %d, %v: %d are told", n, l, len(home))
		}
		for e := range plainEdges(n, l) {
			if home[e.From] < home[e.To] || (home[e.From] == home[e.To]) != Reaches(n, l, e.To, e.From) {
				t.Fatalf("of %d, %v: %d waits for %d", n, l, e.From, e.To)
			}
		}
	}
}

func TestWithoutEdges(t *testing.T) { // P11.3
	for n := range most + 1 {
		check(t, n, nil, each(upTo(n)))
		check(t, n, []api.Edge{}, each(upTo(n)))
	}
}

func TestDeep(t *testing.T) { // P1, P11.1, P11.2: all things stand on the stack
	var down, up, all []api.Edge
	for i := range most {
		if i > 0 {
			down, up = append(down, api.Edge{From: i, To: i - 1}), append(up, api.Edge{From: i - 1, To: i})
		}
		for k := range most {
			all = append(all, api.Edge{From: i, To: k})
		}
	}
	back := upTo(most)
	slices.Reverse(back)
	check(t, most, down, each(upTo(most)))
	check(t, most, up, each(back))
	check(t, most, append(slices.Clone(up), api.Edge{From: 99, To: 0}), [][]int{upTo(most)})
	check(t, most, append(slices.Clone(down), api.Edge{From: 0, To: 99}), [][]int{upTo(most)})
	check(t, most, slices.Concat(up, down), [][]int{upTo(most)})
	check(t, most, all, [][]int{upTo(most)})
	for i := range most {
		checkClosure(t, most, down, i, upTo(i+1))
		checkClosure(t, most, up, i, upTo(most)[i:])
		checkClosure(t, most, all, i, upTo(most))
	}
}

func TestSharesNothing(t *testing.T) { // R3
	l := edges(0, 1, 1, 0, 2, 1, 4, 3, 9, 9)
	given := slices.Clone(l)
	part := l[:3:5] // behind it there is more that is not handed in
	if !equal(Components(5, part), parts(0, 1, -1, 2, -1, 3, -1, 4)) || !slices.Equal(Closure(5, part, 2), upTo(3)) || !Reaches(5, part, 2, 0) {
		t.Error("of a part")
	}
	one, other := Components(5, l), Closure(5, l, 2)
	if !slices.Equal(l, given) {
		t.Errorf("%v was changed", l)
	}
	clear(l)
	if !equal(one, parts(0, 1, -1, 2, -1, 3, -1, 4)) || !slices.Equal(other, upTo(3)) {
		t.Errorf("%v, %v are of what was handed in", one, other)
	}
	for i := range one { // each list is by itself, also behind its end
		rest := slices.Clone(one)
		for k := range rest {
			rest[k] = slices.Clone(one[k])
		}
		room := one[i][:cap(one[i])]
		for k := range room {
			room[k] = 77
		}
		for k := range one {
			if k != i && !slices.Equal(one[k], rest[k]) {
				t.Errorf("%d shares with %d", i, k)
			}
		}
	}
	_ = append(other, 77)
	clear(other)
	if !equal(Components(5, given), parts(0, 1, -1, 2, -1, 3, -1, 4)) || !slices.Equal(Closure(5, given, 2), upTo(3)) {
		t.Error("what was answered is kept")
	}
}

func TestMany(t *testing.T) { // P1: no list is told here, as it is too long for that
	l := slices.Repeat(edges(0, 1, 1, 0, 2, 1, 9, 0, -1, 1), 1<<18)
	if !equal(Components(4, l), parts(0, 1, -1, 2, -1, 3)) {
		t.Error("few, very often")
	}
	if !slices.Equal(Closure(4, l, 2), upTo(3)) || !Reaches(4, append(l, edges(3, 2)...), 3, 0) || Reaches(4, l, 3, 0) {
		t.Error("of many")
	}
}
