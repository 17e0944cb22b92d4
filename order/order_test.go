package order

import (
	"math"
	"slices"
	"testing"

	"colloquy/api"
)

// The limits are written out here, so that a wrong one of the package is seen.
const (
	most        = 100
	mostReplica = 7
	lastSlot    = 60
)

func at(by, slot int) api.Inst {
	return api.Inst{By: by, Slot: slot}
}

func node(by, slot, seq int, deps ...int) api.Node {
	return api.Node{I: at(by, slot), A: api.Attr{Seq: seq, Deps: deps}}
}

// insts are instances, two numbers each.
func insts(l ...int) []api.Inst {
	var out []api.Inst
	for i := 0; i+1 < len(l); i += 2 {
		out = append(out, at(l[i], l[i+1]))
	}
	return out
}

// of are the instances of nodes, as they stand.
func of(l []api.Node) []api.Inst {
	var out []api.Inst
	for _, n := range l {
		out = append(out, n.I)
	}
	return out
}

// with is a list of so many noughts, and a number behind them.
func with(place, number int) []int {
	return append(make([]int, place), number)
}

// but is a list without one of its instances.
func but(l []api.Inst, one api.Inst) []api.Inst {
	return slices.DeleteFunc(slices.Clone(l), func(i api.Inst) bool { return i == one })
}

// wrong are numbers that are no replicas or slots.
func wrong() []int {
	return []int{math.MinInt, math.MinInt + 1, -1 << 32, -60, -1, 0, 61, 100, 1 << 20, 1 << 32, 1<<32 + 1, math.MaxInt - 1, math.MaxInt}
}

func plainNear(n api.Node) bool {
	for _, dep := range n.A.Deps {
		if dep > lastSlot {
			return false
		}
	}
	return n.I.By >= 1 && n.I.By <= mostReplica && n.I.Slot >= 1 && n.I.Slot <= lastSlot
}

// plainCount are those that count, as they are told.
func plainCount(l []api.Node, done []api.Inst) []api.Node {
	var out, ahead []api.Node
	for k, n := range l {
		if k == most {
			break
		}
		if !plainNear(n) {
			continue
		}
		if !slices.Contains(done, n.I) && !slices.Contains(of(ahead), n.I) {
			out = append(out, n)
		}
		ahead = append(ahead, n)
	}
	return out
}

func plainWaits(a api.Attr, i api.Inst) bool {
	return i.By >= 1 && i.By <= len(a.Deps) && i.Slot >= 1 && i.Slot <= a.Deps[i.By-1]
}

func plainLess(a, b api.Node) bool {
	switch {
	case a.A.Seq != b.A.Seq:
		return a.A.Seq < b.A.Seq
	case a.I.By != b.I.By:
		return a.I.By < b.I.By
	}
	return a.I.Slot < b.I.Slot
}

// plainMissing asks of each instance whether it is missing.
func plainMissing(l []api.Node, done []api.Inst) []api.Inst {
	counts, longest := plainCount(l, done), 0
	for _, n := range counts {
		longest = max(longest, len(n.A.Deps))
	}
	var out []api.Inst
	for by := 1; by <= longest; by++ {
		for slot := 1; slot <= lastSlot; slot++ {
			i := at(by, slot)
			waits := func(n api.Node) bool { return plainWaits(n.A, i) }
			if slices.ContainsFunc(counts, waits) && !slices.Contains(of(counts), i) && !slices.Contains(done, i) {
				out = append(out, i)
			}
		}
	}
	return out
}

// plainReach tells of each two nodes, by their places, whether the one waits for the other one, also by others, or is it.
func plainReach(l []api.Node) [][]bool {
	out := make([][]bool, len(l))
	for i := range l {
		out[i] = make([]bool, len(l))
		for k := range l {
			out[i][k] = i == k || plainWaits(l[i].A, l[k].I)
		}
	}
	for by := range l {
		for i := range l {
			for k := range l {
				out[i][k] = out[i][k] || out[i][by] && out[by][k]
			}
		}
	}
	return out
}

// plainReady is what the chapters' words say: of those that wait for nothing missing, by their instances, again and again the first one whose component waits for nothing that is not told.
func plainReady(l []api.Node, done []api.Inst) []api.Inst {
	counts, missing := plainCount(l, done), plainMissing(l, done)
	reach := plainReach(counts)
	var ready []api.Node
	for i := range counts {
		is := true
		for k, other := range counts {
			waits := func(m api.Inst) bool { return plainWaits(other.A, m) }
			is = is && !(reach[i][k] && slices.ContainsFunc(missing, waits))
		}
		if is {
			ready = append(ready, counts[i])
		}
	}
	slices.SortFunc(ready, func(a, b api.Node) int { return (a.I.By-b.I.By)*1000 + a.I.Slot - b.I.Slot })
	return plainOrder(ready)
}

func plainOrder(ready []api.Node) []api.Inst {
	reach := plainReach(ready)
	var out []api.Inst
	for len(out) < len(ready) {
		for i, n := range ready {
			if slices.Contains(out, n.I) {
				continue
			}
			var part []api.Node
			free := true
			for k, other := range ready {
				if reach[i][k] && reach[k][i] {
					part = append(part, other)
				} else if reach[i][k] {
					free = free && slices.Contains(out, other.I)
				}
			}
			if free {
				for len(part) > 0 {
					first := slices.IndexFunc(part, func(a api.Node) bool {
						return !slices.ContainsFunc(part, func(b api.Node) bool { return plainLess(b, a) })
					})
					out = append(out, part[first].I)
					part = slices.Delete(part, first, first+1)
				}
				break
			}
		}
	}
	return out
}

// check ends a test at its first fault, as some of them ask thousands of times.
func check(t *testing.T, l []api.Node, done, ready, missing []api.Inst) {
	t.Helper()
	if got := Ready(l, done); !slices.Equal(got, ready) {
		t.Fatalf("of %v, with %v done: ready %v, want %v", l, done, got, ready)
	}
	if got := Missing(l, done); !slices.Equal(got, missing) {
		t.Fatalf("of %v, with %v done: missing %v, want %v", l, done, got, missing)
	}
}

func checkPlain(t *testing.T, l []api.Node, done []api.Inst) {
	t.Helper()
	check(t, l, done, plainReady(l, done), plainMissing(l, done))
}

// dice are numbers that are the same in each run.
type dice uint32

func (d *dice) below(n int) int {
	*d = *d*1664525 + 1013904223
	return int(*d>>8) % n
}

// shuffled are the same nodes in another order.
func (d *dice) shuffled(l []api.Node) []api.Node {
	out := slices.Clone(l)
	for i := range out {
		k := i + d.below(len(out)-i)
		out[i], out[k] = out[k], out[i]
	}
	return out
}

// world is a node for each of so many slots of each of some replicas; it waits for a slot of a replica, or of none, once in so many times.
func (d *dice) world(replicas, slots, seldom int) []api.Node {
	var out []api.Node
	for by := 1; by <= replicas; by++ {
		for slot := 1; slot <= slots; slot++ {
			deps := make([]int, replicas)
			for k := range deps {
				if d.below(seldom) == 0 {
					deps[k] = d.below(slots + 1)
				}
			}
			out = append(out, node(by, slot, d.below(4), deps...))
		}
	}
	return out
}

func TestExamples(t *testing.T) { // P12.2, P12.3
	check(t, []api.Node{node(1, 1, 2, 0, 1), node(2, 1, 1, 1, 0)}, nil, insts(2, 1, 1, 1), nil)
	check(t, []api.Node{node(1, 1, 2, 0, 1)}, nil, nil, insts(2, 1))
}

func TestNothing(t *testing.T) { // P12.2, P12.3
	for _, l := range [][]api.Node{nil, {}, {{}}} {
		for _, done := range [][]api.Inst{nil, {}, {{}}, insts(1, 1)} {
			check(t, l, done, nil, nil)
		}
	}
}

func TestLess(t *testing.T) { // P12.1: for all triples of numbers, whether they may be or not; deps play no part
	numbers := []int{math.MinInt, -1, 0, 1, 2, 60, 61, math.MaxInt}
	var l []api.Node
	for _, seq := range numbers {
		for _, by := range numbers {
			for _, slot := range numbers {
				l = append(l, node(by, slot, seq, with(len(l)%5, len(l)%99)...))
			}
		}
	}
	for i, a := range l {
		for k, b := range l {
			if Less(a, b) != (i < k) {
				t.Fatalf("%v, %v", a, b)
			}
		}
	}
	if Less(node(1, 1, 1), node(1, 1, 1, 5)) || Less(node(1, 1, 1, 0, 1), node(2, 1, 0)) || !Less(node(2, 1, 0, 1), node(1, 1, 1)) {
		t.Error("who waits plays a part")
	}
}

func TestMissing(t *testing.T) { // P12.2
	for _, x := range []struct {
		l    []api.Node
		done []api.Inst
		want []api.Inst
	}{
		{[]api.Node{node(1, 1, 1)}, nil, nil},
		{[]api.Node{node(1, 1, 1, 0, 0, 0)}, nil, nil},
		{[]api.Node{node(1, 1, 1, 1)}, nil, nil}, // itself
		{[]api.Node{node(1, 2, 1, 2)}, nil, insts(1, 1)},
		{[]api.Node{node(1, 3, 1, 1, 2)}, nil, insts(1, 1, 2, 1, 2, 2)},
		{[]api.Node{node(1, 3, 1, 1, 2)}, insts(2, 1), insts(1, 1, 2, 2)},
		{[]api.Node{node(1, 3, 1, 1, 2)}, insts(2, 2, 1, 1, 2, 1, 2, 2), nil},
		{[]api.Node{node(1, 3, 1, 1, 2), node(2, 1, 1)}, nil, insts(1, 1, 2, 2)},
		{[]api.Node{node(3, 1, 1, 0, 2), node(2, 9, 1, 1, 1), node(1, 7, 1, 0, 3)}, nil, insts(1, 1, 2, 1, 2, 2, 2, 3)},         // each once, rising
		{[]api.Node{node(3, 1, 1, 0, 2), node(2, 9, 1, 1, 1), node(1, 7, 1, 0, 3)}, insts(3, 1), insts(1, 1, 2, 1, 2, 2, 2, 3)}, // done, so it counts no more
		{[]api.Node{node(3, 1, 1, 0, 2), node(2, 9, 1, 1, 1), node(1, 7, 1, 0, 3)}, insts(1, 7), insts(1, 1, 2, 1, 2, 2)},
		{[]api.Node{node(3, 1, 1, 0, 2), node(2, 9, 1, 1, 1)}, insts(3, 1, 2, 9), nil},
		{[]api.Node{node(1, 1, 1, -1, math.MinInt, 1)}, nil, insts(3, 1)},
		{[]api.Node{node(1, 1, 1, with(7, 2)...)}, nil, insts(8, 1, 8, 2)}, // also of a replica that may not be: attr has a dep of it
		{[]api.Node{node(1, 1, 1, with(7, 2)...)}, insts(8, 1), insts(8, 2)},
		{[]api.Node{node(1, 1, 1, with(7, 2)...), node(8, 1, 1), node(8, 2, 1)}, nil, insts(8, 1, 8, 2)},
		{[]api.Node{node(1, 1, 1, 0, 1), node(2, 1, 1, 0, 61)}, nil, insts(2, 1)}, // who does not count is missing, too
		{[]api.Node{node(1, 1, 1, 0, 1), node(2, 1, 1, 0, 2)}, nil, insts(2, 2)},
	} {
		if got := Missing(x.l, x.done); !slices.Equal(got, x.want) {
			t.Errorf("%v, with %v done: %v, want %v", x.l, x.done, got, x.want)
		}
	}
}

func TestReady(t *testing.T) { // P12.3
	for _, x := range []struct {
		l          []api.Node
		done, want []api.Inst
	}{
		{[]api.Node{node(1, 1, 1)}, nil, insts(1, 1)},
		{[]api.Node{node(1, 1, 1, 1)}, nil, insts(1, 1)}, // itself
		{[]api.Node{node(1, 1, 1)}, insts(1, 1), nil},
		{[]api.Node{node(1, 2, 1, 1)}, nil, nil},
		{[]api.Node{node(1, 2, 1, 1)}, insts(1, 1), insts(1, 2)},
		{[]api.Node{node(3, 1, 1), node(2, 2, 2), node(2, 1, 9), node(1, 5, 7)}, nil, insts(1, 5, 2, 1, 2, 2, 3, 1)},                               // by instance, where none waits
		{[]api.Node{node(1, 1, 1, 0, 0, 1), node(2, 1, 2), node(3, 1, 3)}, nil, insts(2, 1, 3, 1, 1, 1)},                                           // behind what it waits for, whatever the Seqs
		{[]api.Node{node(1, 1, 1, 0, 1), node(2, 1, 2, 0, 0, 1), node(3, 1, 3)}, nil, insts(3, 1, 2, 1, 1, 1)},                                     // a chain
		{[]api.Node{node(1, 1, 1, 0, 1), node(2, 1, 2, 0, 0, 1), node(3, 1, 3, 0, 0, 0, 1)}, nil, nil},                                             // that waits for a missing one
		{[]api.Node{node(1, 1, 1, 0, 1), node(2, 1, 2, 0, 0, 1), node(3, 1, 3, 0, 0, 0, 1)}, insts(2, 1), insts(1, 1)},                             // but one that is done holds up none
		{[]api.Node{node(1, 1, 1, 0, 1), node(2, 1, 2, 0, 0, 1), node(3, 1, 3, 0, 0, 0, 1)}, insts(4, 1), insts(3, 1, 2, 1, 1, 1)},                 // the missing one is done
		{[]api.Node{node(1, 1, 3, 0, 1), node(2, 1, 2, 0, 0, 1), node(3, 1, 1, 1)}, nil, insts(3, 1, 2, 1, 1, 1)},                                  // a ring, by Seq
		{[]api.Node{node(1, 1, 1, 0, 1), node(2, 1, 1, 0, 0, 1), node(3, 1, 1, 1)}, nil, insts(1, 1, 2, 1, 3, 1)},                                  // by By
		{[]api.Node{node(2, 9, 1, 0, 9), node(2, 3, 1, 0, 9)}, insts(2, 1, 2, 2, 2, 4, 2, 5, 2, 6, 2, 7, 2, 8), insts(2, 3, 2, 9)},                 // by Slot
		{[]api.Node{node(1, 1, 3, 0, 1), node(2, 1, 2, 0, 0, 1), node(3, 1, 1, 1, 0, 0, 1)}, nil, nil},                                             // a ring of which one waits for a missing one
		{[]api.Node{node(1, 1, 3, 0, 1), node(2, 1, 2, 1), node(3, 1, 1, 1), node(4, 1, 0, 0, 0, 0, 0, 1)}, nil, insts(2, 1, 1, 1, 3, 1)},          // a ring, and who waits for it, and who is held up
		{[]api.Node{node(1, 1, 9, 0, 1), node(2, 1, 8, 1), node(3, 1, 7, 0, 0, 0, 1), node(4, 1, 6, 0, 1, 1)}, nil, insts(2, 1, 1, 1, 4, 1, 3, 1)}, // one ring behind the other
		{[]api.Node{node(1, 2, 3, 1, 0, 2), node(1, 1, 1), node(3, 1, 1), node(3, 2, 2, 1)}, nil, insts(1, 1, 3, 1, 3, 2, 1, 2)},
		{[]api.Node{node(1, 1, 1, with(7, 1)...)}, nil, nil},
		{[]api.Node{node(1, 1, 1, with(7, 1)...)}, insts(8, 1), insts(1, 1)},
		{[]api.Node{node(1, 1, 1, -3, math.MinInt)}, nil, insts(1, 1)},
	} {
		if got := Ready(x.l, x.done); !slices.Equal(got, x.want) {
			t.Errorf("%v, with %v done: %v, want %v", x.l, x.done, got, x.want)
		}
	}
}

func TestNear(t *testing.T) { // P12.2, P12.3: who is not near is not done, and is missing
	for _, by := range append(wrong(), 8, 9) {
		check(t, []api.Node{node(by, 1, 1, 0, 1)}, nil, nil, nil)
		check(t, []api.Node{node(by, by, 1, 0, 1)}, nil, nil, nil)
	}
	for _, slot := range wrong() {
		check(t, []api.Node{node(1, slot, 1, 0, 1)}, nil, nil, nil)
	}
	for by := 1; by <= mostReplica; by++ {
		for slot := 1; slot <= lastSlot; slot++ {
			check(t, []api.Node{node(by, slot, 1)}, nil, insts(by, slot), nil)
		}
	}
	for place := range 10 {
		for _, dep := range []int{61, 62, 100, 1 << 20, 1 << 32, 1<<32 + 1, math.MaxInt} {
			check(t, []api.Node{node(1, 1, 1, with(place, dep)...)}, nil, nil, nil)
			check(t, []api.Node{node(1, 1, 1, append(with(place, dep), 1, 0)...)}, nil, nil, nil)
			check(t, []api.Node{node(2, 1, 1, with(place, dep)...), node(1, 1, 1, 0, 1)}, nil, nil, insts(2, 1))
		}
		for _, dep := range []int{math.MinInt, -61, -1, 0} {
			check(t, []api.Node{node(1, 1, 1, with(place, dep)...)}, nil, insts(1, 1), nil)
		}
		for _, dep := range []int{1, 2, 59, 60} {
			var want []api.Inst
			for slot := 1; slot <= dep; slot++ {
				want = append(want, at(place+1, slot))
			}
			check(t, []api.Node{node(7, 60, 1, with(place, dep)...)}, nil, nil, but(want, at(7, 60)))
			check(t, []api.Node{node(1, 60, 1, with(place, dep)...)}, but(want, at(1, 60)), insts(1, 60), nil)
		}
	}
}

func TestTheFirstHundred(t *testing.T) { // P12.2, P12.3: far ones, done ones and the same again have places, too
	done := insts(6, 1)
	for _, n := range []api.Node{{}, node(9, 1, 1), node(1, 1, 1, 61), node(5, 1, 1), node(6, 1, 1)} {
		var own []api.Inst
		if n.I == at(5, 1) {
			own = insts(5, 1)
		}
		ahead := slices.Repeat([]api.Node{n}, 3*most)
		both := []api.Node{node(1, 2, 5, 0, 1), node(2, 1, 4)}
		for _, count := range []int{1, 2, 97, 98} {
			check(t, append(ahead[:count:count], both...), done, append(insts(2, 1, 1, 2), own...), nil)
		}
		check(t, append(ahead[:99:99], both...), done, own, insts(2, 1)) // the first one counts, the other one does not
		for _, count := range []int{100, 101, 300} {
			check(t, append(ahead[:count:count], both...), done, own, nil)
		}
	}
	var l []api.Node
	for k := range 2 * most {
		l = append(l, node(1+k/40, 1+k%40, 1, slices.Repeat([]int{40}, 5)[:k/40]...))
	}
	check(t, l[:most], nil, of(l[:most]), nil)
	check(t, l, nil, of(l[:most]), nil)
	check(t, append(slices.Clone(l[1:]), l[0]), nil, of(l[1:40]), insts(1, 1))
	check(t, l, of(l[:most]), nil, nil) // those behind don't count instead
}

func TestTheSameAgain(t *testing.T) { // P12.2, P12.3: the first near one tells
	one, other, far := node(1, 1, 1), node(1, 1, 1, 0, 1), node(1, 1, 1, 61)
	check(t, []api.Node{one, other}, nil, insts(1, 1), nil)
	check(t, []api.Node{other, one}, nil, nil, insts(2, 1))
	check(t, []api.Node{far, one, other}, nil, insts(1, 1), nil)
	check(t, []api.Node{far, other, one}, nil, nil, insts(2, 1))
	check(t, []api.Node{one, far}, nil, insts(1, 1), nil)
	check(t, []api.Node{one, other, one, far}, insts(1, 1), nil, nil)
	check(t, []api.Node{node(1, 1, 9, 0, 1), node(2, 1, 5, 1), node(1, 1, 0, 0, 1), node(2, 1, 99, 1)}, nil, insts(2, 1, 1, 1), nil) // its Seq, too
	check(t, append(slices.Repeat([]api.Node{one}, 50), slices.Repeat([]api.Node{node(2, 1, 1, 1)}, 80)...), nil, insts(1, 1, 2, 1), nil)
}

func TestDone(t *testing.T) { // P12.2, P12.3: whatever is told as done, and however often
	l := []api.Node{node(1, 1, 1), node(1, 2, 1, 1, 1)}
	var junk []api.Inst
	for _, a := range wrong() {
		junk = append(junk, at(a, 1), at(1, a), at(a, a), at(2, a))
	}
	check(t, l, junk, insts(1, 1), insts(2, 1))
	check(t, l, append(junk, insts(2, 1, 2, 1)...), insts(1, 1, 1, 2), nil)
	check(t, l, append(insts(1, 1, 2, 1, 1, 1), junk...), insts(1, 2), nil)
	check(t, l, append(junk, insts(1, 2, 1, 1, 1, 2)...), nil, nil)
	check(t, l, insts(1, 2), insts(1, 1), nil)
}

func TestAllOfThree(t *testing.T) { // P12.2, P12.3, P12.4: who waits for whom, who is told, who is done
	seqs := [][3]int{{1, 1, 1}, {1, 2, 3}, {3, 2, 1}, {2, 1, 2}, {1, 3, 2}}
	for set := range 1 << 9 {
		for told := range 1 << 3 {
			for finished := range 1 << 3 {
				var l []api.Node
				var done []api.Inst
				for k := range 3 {
					if told>>k&1 == 1 {
						l = append(l, node(k+1, 1, seqs[set%5][k], set>>(3*k)&1, set>>(3*k+1)&1, set>>(3*k+2)&1))
					}
					if finished>>k&1 == 1 {
						done = append(done, at(k+1, 1))
					}
				}
				checkPlain(t, l, done)
			}
		}
	}
}

func TestAnything(t *testing.T) { // P1, P12.2, P12.3, R5: of anything at all, twice
	d := dice(1)
	number := func() int {
		if d.below(30) == 0 {
			return wrong()[d.below(len(wrong()))]
		}
		return 1 + d.below(3)
	}
	for range 20000 {
		l, done := make([]api.Node, d.below(9)), make([]api.Inst, d.below(9))
		for i := range l {
			l[i] = node(number(), number(), d.below(4), make([]int, d.below(5))...)
			for k := range l[i].A.Deps {
				if d.below(3) == 0 {
					l[i].A.Deps[k] = number() - 1
				}
			}
		}
		for i := range done {
			done[i] = at(number(), number())
		}
		checkPlain(t, l, done)
		checkPlain(t, l, done)
	}
	for range 60 {
		l := d.shuffled(d.world(mostReplica, 1+d.below(16), 1+d.below(20)))
		checkPlain(t, l, of(l[:d.below(len(l))]))
		checkPlain(t, l[d.below(len(l)):], nil)
	}
}

func TestInWhateverOrderTheyAreTold(t *testing.T) { // P12.2, P12.3: each instance once, no more than a hundred
	d := dice(2)
	for range 500 {
		l := d.world(1+d.below(5), 1+d.below(6), 1+d.below(9))
		l = d.shuffled(l)[:1+d.below(len(l))]
		done := of(d.world(2, 2, 1)[:d.below(5)])
		ready, missing := Ready(l, done), Missing(l, done)
		slices.Reverse(done)
		check(t, d.shuffled(l), append(done, done...), ready, missing)
	}
}

// place is of each instance where it stands.
func place(l []api.Inst) map[api.Inst]int {
	out := map[api.Inst]int{}
	for k, i := range l {
		out[i] = k
	}
	return out
}

func TestWhoWaitsIsBehind(t *testing.T) { // P12.4
	d := dice(3)
	for range 2000 {
		l := d.world(1+d.below(4), 1+d.below(4), 1+d.below(12))
		order, reach := place(Ready(l, nil)), plainReach(l)
		if len(order) != len(l) {
			t.Fatalf("of %v: %d are ready", l, len(order))
		}
		for i, a := range l {
			for k, b := range l {
				ahead := !reach[k][i] || plainLess(b, a)
				if i != k && plainWaits(a.A, b.I) && (order[b.I] < order[a.I]) != ahead {
					t.Fatalf("of %v: %v waits for %v", l, a, b)
				}
			}
		}
	}
}

// doneBitByBit is what one has done, in order, that was told of some more nodes again and again.
func doneBitByBit(d *dice, l []api.Node) []api.Inst {
	l = d.shuffled(l)
	var done []api.Inst
	for told := 0; told < len(l); {
		told = min(told+1+d.below(3), len(l))
		done = append(done, Ready(l[:told], done)...)
	}
	return done
}

func TestWhoeverIsToldEarlierOrLater(t *testing.T) { // P12.4: of two of which one waits for the other all do the same one first
	d := dice(4)
	for range 1500 {
		l := d.world(1+d.below(4), 1+d.below(4), 1+d.below(12))
		order := place(Ready(l, nil))
		for range 4 {
			done := doneBitByBit(&d, l)
			other := place(done)
			if len(done) != len(l) || len(other) != len(l) {
				t.Fatalf("of %v: %v", l, done)
			}
			for _, a := range l {
				for _, b := range l {
					if plainWaits(a.A, b.I) && (order[a.I] < order[b.I]) != (other[a.I] < other[b.I]) {
						t.Fatalf("of %v: %v and %v: %v", l, a, b, done)
					}
				}
			}
		}
	}
}

func TestDeep(t *testing.T) { // P1, P12.3: a hundred in a chain, a ring, and all for all
	var chain, all []api.Node
	for slot := 1; slot <= 60; slot++ {
		chain = append(chain, node(1, slot, most-slot, slot-1))
		all = append(all, node(1, slot, most-slot, 60, 40))
	}
	for slot := 1; slot <= 40; slot++ {
		chain = append(chain, node(2, slot, 40-slot, 60, slot-1))
		all = append(all, node(2, slot, 40-slot, 60, 40))
	}
	ring := slices.Clone(chain)
	ring[0] = node(1, 1, most, 0, 40)
	back := of(all)
	slices.Reverse(back)
	check(t, chain, nil, of(chain), nil)
	check(t, ring, nil, back, nil)
	check(t, all, nil, back, nil)
	ring[0] = node(1, 1, most, 0, 41)
	check(t, ring, nil, nil, insts(2, 41))
	check(t, ring, insts(2, 41), back, nil)
}

func TestSharesNothing(t *testing.T) { // R3
	l := []api.Node{node(1, 1, 2, 0, 1), node(2, 1, 1, 1, 0), node(3, 1, 1, 0, 0, 0, 2), node(4, 1, 1), node(5, 1, 1)}
	done := insts(1, 7, 4, 2, 4, 1)
	part, some := l[:3:4], done[:2:3] // behind them there is more that is not handed in
	check(t, part, some, insts(2, 1, 1, 1), insts(4, 1))
	if !slices.Equal(done, insts(1, 7, 4, 2, 4, 1)) || !slices.Equal(of(l), insts(1, 1, 2, 1, 3, 1, 4, 1, 5, 1)) || !slices.Equal(l[0].A.Deps, []int{0, 1}) || !slices.Equal(l[2].A.Deps, []int{0, 0, 0, 2}) {
		t.Errorf("%v, %v were changed", l, done)
	}
	ready, missing := Ready(part, some), Missing(part, some)
	saved := slices.Clone(l)
	clear(l)
	clear(done)
	if !slices.Equal(ready, insts(2, 1, 1, 1)) || !slices.Equal(missing, insts(4, 1)) {
		t.Errorf("%v, %v are of what was handed in", ready, missing)
	}
	clear(ready)
	clear(missing)
	check(t, saved[:3], insts(4, 2), insts(2, 1, 1, 1), insts(4, 1)) // nothing is kept
}

func TestMany(t *testing.T) { // P1: no list is told here, as it is too long for that
	l := append([]api.Node{node(1, 1, 1, 0, 1), node(2, 1, 1)}, slices.Repeat([]api.Node{node(3, 1, 1, 0, 0, 0, 1)}, 1<<18)...)
	done := slices.Repeat(insts(5, 1, 6, 1), 1<<18)
	if !slices.Equal(Ready(l, done), insts(2, 1, 1, 1)) || !slices.Equal(Missing(l, done), insts(4, 1)) {
		t.Error("few, very often")
	}
	wide := node(1, 1, 1, slices.Repeat([]int{60}, 1<<12)...)
	got := Missing([]api.Node{wide}, nil)
	if len(got) != 60<<12-1 || got[0] != at(1, 2) || got[59] != at(2, 1) || got[len(got)-1] != at(1<<12, 60) {
		t.Error("very many are missing")
	}
	if Ready([]api.Node{wide}, nil) != nil {
		t.Error("it waits for very many")
	}
	wide.A.Deps[1<<11] = 61
	check(t, []api.Node{wide}, nil, nil, nil)
}
