package index

import (
	"math"
	"slices"
	"strings"
	"testing"

	"colloquy/api"
)

// The limits and kinds are written out here, so that a wrong one of the package is seen.
const (
	mostReplica = 7
	mostSlot    = 1 << 20
	mostUser    = 1 << 20
	mostChannel = 1 << 20
)

const (
	nop = iota
	open
	join
	leave
	post
	edit
	remove
	fetch
	kinds
)

// cmd is a command of a kind that may be, if the user and the channel may.
func cmd(kind, user, channel int) api.Cmd {
	c := api.Cmd{User: user, Seq: 300, Kind: kind, Channel: channel}
	if kind == edit || kind == remove || kind == fetch {
		c.N = 9
	}
	if kind == post || kind == edit {
		c.Text = "hi"
	}
	return c
}

func at(by, slot int) api.Inst {
	return api.Inst{By: by, Slot: slot}
}

func known(by, slot, seq int, c api.Cmd) api.Known {
	return api.Known{I: at(by, slot), C: c, Seq: seq}
}

// wrong are commands that may not be.
func wrong() []api.Cmd {
	long := cmd(post, 1, 1)
	long.Text = strings.Repeat("x", 65)
	return []api.Cmd{{User: 1}, cmd(nop, 1, 1), cmd(-1, 1, 1), cmd(kinds, 1, 1), cmd(post, 0, 1), cmd(post, 1, 0), cmd(post, mostUser+1, 1),
		cmd(post, 1, mostChannel+1), {User: 1, Seq: 1, Kind: fetch, Channel: 1}, {User: 1, Kind: join, Channel: 1}, long,
		cmd(math.MinInt, math.MinInt, math.MinInt), cmd(math.MaxInt, math.MaxInt, math.MaxInt)}
}

// has tells whether a command has keys: those that this file makes have them, if kind, user and channel may be.
func has(c api.Cmd) bool {
	return c.Kind > nop && c.Kind < kinds && c.User >= 1 && c.User <= mostUser && c.Channel >= 1 && c.Channel <= mostChannel && c.Seq > 0 &&
		(c.Kind != fetch || c.N > 0) && len(c.Text) <= 64
}

func interfere(a, b api.Cmd) bool {
	return has(a) && has(b) && (a.User == b.User || a.Channel == b.Channel && (a.Kind != fetch || b.Kind != fetch))
}

// plain is what the chapter's words say, from the greatest Seq on, and replica by replica.
func plain(l []api.Known, c api.Cmd, self api.Inst, n int) api.Attr {
	if n < 1 {
		n = 1
	}
	if n > mostReplica {
		n = mostReplica
	}
	var seqs []int
	deps := make([]int, n)
	for by := 1; by <= n; by++ {
		for _, k := range l {
			if k.I.By != by || k.I.Slot < 1 || k.I.Slot > mostSlot || k.I == self || !interfere(k.C, c) {
				continue
			}
			seqs = append(seqs, k.Seq)
			if k.I.Slot > deps[by-1] {
				deps[by-1] = k.I.Slot
			}
		}
	}
	if len(seqs) == 0 || slices.Max(seqs) < 0 {
		return api.Attr{Seq: 1, Deps: deps}
	}
	if slices.Max(seqs) == math.MaxInt {
		return api.Attr{Seq: math.MaxInt, Deps: deps}
	}
	return api.Attr{Seq: slices.Max(seqs) + 1, Deps: deps}
}

// last is what is left of a list, if each one stands in the place of those ahead of it that are of its instance.
func last(l []api.Known) []api.Known {
	var out []api.Known
	for i, k := range l {
		if !slices.ContainsFunc(l[i+1:], func(other api.Known) bool { return other.I == k.I }) {
			out = append(out, k)
		}
	}
	return out
}

func equal(a, b api.Attr) bool {
	return a.Seq == b.Seq && slices.Equal(a.Deps, b.Deps)
}

func filled(n int, l ...api.Known) *Index {
	x := New(n)
	for _, k := range l {
		x.Put(k)
	}
	return x
}

// check holds Of, and the Attr of an index, against what is wanted of a list in which no instance is twice.
func check(t *testing.T, l []api.Known, c api.Cmd, self api.Inst, n int, want api.Attr) {
	t.Helper()
	if a := Of(l, c, self, n); !equal(a, want) {
		t.Errorf("Of(%v, %v, %v, %d): %v, want %v", l, c, self, n, a, want)
	}
	if a := filled(n, l...).Attr(c, self); !equal(a, want) {
		t.Errorf("Attr(%v, %v) of %v, %d: %v, want %v", c, self, l, n, a, want)
	}
}

func attr(seq int, deps ...int) api.Attr {
	return api.Attr{Seq: seq, Deps: deps}
}

// dice are numbers that are the same in each run.
type dice uint32

func (d *dice) below(n int) int {
	*d = *d*1664525 + 1013904223
	return int(*d>>8) % n
}

func pick[T any](d *dice, l ...T) T {
	return l[d.below(len(l))]
}

func (d *dice) command() api.Cmd {
	if d.below(8) == 0 {
		return pick(d, append(wrong(), api.Cmd{})...)
	}
	return cmd(open+d.below(kinds-open), 1+d.below(4), 1+d.below(4))
}

func (d *dice) instance() api.Inst {
	if d.below(6) == 0 {
		return at(pick(d, math.MinInt, -1, 0, 1, 7, 8, math.MaxInt), pick(d, math.MinInt, -1, 0, 1, mostSlot, mostSlot+1, math.MaxInt))
	}
	return at(1+d.below(4), 1+d.below(5))
}

func (d *dice) known(most int) []api.Known {
	l := make([]api.Known, d.below(most+1))
	for i := range l {
		l[i] = api.Known{I: d.instance(), C: d.command(), Seq: d.below(12) - 3}
		if d.below(40) == 0 {
			l[i].Seq = pick(d, math.MinInt, math.MaxInt-1, math.MaxInt)
		}
	}
	return l
}

func TestExample(t *testing.T) { // P8.1, P8.2
	check(t, []api.Known{known(2, 1, 4, cmd(post, 1, 3))}, cmd(fetch, 2, 3), at(1, 1), 3, attr(5, 0, 1, 0))
}

func TestWhoInterferes(t *testing.T) { // P8.1: the same user, or the same channel that one of both changes
	c := cmd(fetch, 1, 3)
	for _, x := range []struct {
		other api.Cmd
		want  api.Attr
	}{
		{cmd(post, 2, 3), attr(9, 0, 6)},
		{cmd(open, 1, 4), attr(9, 0, 6)},
		{cmd(fetch, 1, 4), attr(9, 0, 6)},
		{cmd(fetch, 1, 3), attr(9, 0, 6)},
		{cmd(fetch, 2, 3), attr(1, 0, 0)},
		{cmd(post, 2, 4), attr(1, 0, 0)},
		{cmd(post, 3, 1), attr(1, 0, 0)}, // a user is no channel of that number
		{api.Cmd{}, attr(1, 0, 0)},
	} {
		check(t, []api.Known{known(2, 6, 8, x.other)}, c, at(1, 1), 2, x.want)
		check(t, []api.Known{known(2, 6, 8, c)}, x.other, at(1, 1), 2, x.want)
	}
	for _, other := range wrong() {
		check(t, []api.Known{known(2, 6, 8, other)}, cmd(post, 1, 1), at(1, 1), 2, attr(1, 0, 0))
		check(t, []api.Known{known(2, 6, 8, cmd(post, 1, 1))}, other, at(1, 1), 2, attr(1, 0, 0))
	}
}

func TestNone(t *testing.T) { // P8.1, P8.2
	for _, l := range [][]api.Known{nil, {}} {
		check(t, l, cmd(post, 1, 1), at(1, 1), 3, attr(1, 0, 0, 0))
		check(t, l, api.Cmd{}, api.Inst{}, 1, attr(1, 0))
	}
}

func TestGreatest(t *testing.T) { // P8.1: Seq and each dep are of whoever has the greatest, wherever it stands
	l := []api.Known{known(1, 2, 5, cmd(post, 1, 3)), known(1, 9, 1, cmd(post, 2, 3)), known(3, 4, 7, cmd(join, 5, 8)), known(3, 8, 2, cmd(fetch, 6, 3)), known(3, 99, 99, cmd(post, 6, 6))}
	for range l {
		l = append(l[1:], l[0])
		check(t, l, cmd(edit, 5, 3), at(2, 1), 4, attr(8, 9, 0, 8, 0))
	}
}

func TestSeqBelowNought(t *testing.T) { // P8.1
	for _, x := range []struct{ seq, want int }{
		{0, 1}, {-1, 1}, {-2, 1}, {math.MinInt, 1}, {1, 2}, {1 << 30, 1<<30 + 1}, {math.MaxInt - 1, math.MaxInt},
		{math.MaxInt, math.MaxInt}, // wrapped round it would be less than for less that is known
	} {
		check(t, []api.Known{known(1, 3, x.seq, cmd(post, 1, 1))}, cmd(post, 1, 1), at(1, 1), 1, attr(x.want, 3))
		check(t, []api.Known{known(1, 3, x.seq, cmd(post, 1, 1)), known(1, 2, -7, cmd(post, 1, 1))}, cmd(post, 1, 1), at(1, 1), 1, attr(x.want, 3))
	}
	check(t, []api.Known{known(1, 3, -5, cmd(post, 1, 1)), known(1, 2, 4, cmd(post, 1, 1))}, cmd(post, 1, 1), at(1, 1), 1, attr(5, 3))
}

func TestHowMany(t *testing.T) { // P8.1, P8.2: n counts as 1 below that, as 7 above that
	for _, x := range []struct{ n, want int }{{math.MinInt, 1}, {-1, 1}, {0, 1}, {1, 1}, {2, 2}, {6, 6}, {7, 7}, {8, 7}, {9, 7}, {math.MaxInt, 7}} {
		var l []api.Known
		want := attr(1)
		for by := range 10 {
			l = append(l, known(by, by+10, by, cmd(post, 1, 1)))
			if by >= 1 && by <= x.want {
				want.Deps, want.Seq = append(want.Deps, by+10), by+1
			}
		}
		check(t, l, cmd(post, 1, 1), api.Inst{}, x.n, want)
		check(t, nil, cmd(post, 1, 1), api.Inst{}, x.n, attr(1, make([]int, x.want)...))
		if k := filled(x.n, l...).Len(); k != x.want {
			t.Errorf("among %d: %d are known", x.n, k)
		}
	}
}

func TestWhatMayNotBeKnown(t *testing.T) { // P8.1, P8.2: it is passed over
	c := cmd(post, 1, 1)
	for _, i := range []api.Inst{{}, at(0, 1), at(-1, 1), at(4, 1), at(8, 1), at(math.MinInt, 1), at(math.MaxInt, 1), at(1, 0), at(1, -1), at(3, mostSlot+1),
		at(1, math.MinInt), at(1, math.MaxInt), at(math.MaxInt, math.MaxInt), at(math.MinInt, math.MinInt)} {
		l := []api.Known{{I: i, C: c, Seq: 50}}
		check(t, l, c, at(1, 1), 3, attr(1, 0, 0, 0))
		check(t, l, c, i, 3, attr(1, 0, 0, 0))
		if k := filled(3, l...).Len(); k != 0 {
			t.Errorf("%v: %d", i, k)
		}
		check(t, append(l, known(2, 6, 3, c)), c, i, 3, attr(4, 0, 6, 0)) // who asks may be one that may not be known
	}
	for _, i := range []api.Inst{at(1, 1), at(3, 1), at(1, mostSlot), at(3, mostSlot)} {
		want := attr(51, 0, 0, 0)
		want.Deps[i.By-1] = i.Slot
		check(t, []api.Known{{I: i, C: c, Seq: 50}}, c, at(2, 1), 3, want)
		if filled(3, api.Known{I: i}).Len() != 1 {
			t.Errorf("%v is not known", i)
		}
	}
}

func TestSelf(t *testing.T) { // P8.1: both of its numbers tell who it is
	c := cmd(post, 1, 1)
	l := []api.Known{known(1, 2, 9, c), known(2, 1, 3, c), known(2, 2, 5, c)}
	check(t, l, c, at(1, 2), 2, attr(6, 0, 2))
	check(t, l, c, at(2, 2), 2, attr(10, 2, 1))
	check(t, l, c, at(2, 1), 2, attr(10, 2, 2))
	check(t, l, c, at(1, 1), 2, attr(10, 2, 2))
	check(t, l[:1], c, at(1, 2), 2, attr(1, 0, 0))
}

func TestTwiceInAList(t *testing.T) { // P8.1: all count
	l := []api.Known{known(1, 2, 9, cmd(post, 1, 1)), known(1, 2, 3, cmd(post, 2, 2)), known(1, 2, 4, cmd(post, 1, 1))}
	if a := Of(l, cmd(post, 1, 3), at(2, 1), 2); !equal(a, attr(10, 2, 0)) {
		t.Error(a)
	}
	if a := Of(l, cmd(post, 3, 2), at(2, 1), 2); !equal(a, attr(4, 2, 0)) {
		t.Error(a)
	}
	if a := Of(l, cmd(post, 1, 2), at(1, 2), 2); !equal(a, attr(1, 0, 0)) {
		t.Error(a)
	}
}

func TestOfAll(t *testing.T) { // P8.1
	d := dice(1)
	for range 20000 {
		l, c, self, n := d.known(12), d.command(), d.instance(), d.below(10)-1
		if a, want := Of(l, c, self, n), plain(l, c, self, n); !equal(a, want) {
			t.Fatalf("Of(%v, %v, %v, %d): %v, want %v", l, c, self, n, a, want)
		}
	}
}

func TestPutInThePlaceOf(t *testing.T) { // P8.2: nothing of what was known before counts
	c := cmd(post, 1, 1)
	x := filled(2, known(1, 2, 9, c), known(2, 3, 1, c))
	for _, step := range []struct {
		k    api.Known
		want api.Attr
		size int
	}{
		{known(1, 2, 4, c), attr(5, 2, 3), 2},                              // a less Seq
		{known(1, 2, -4, c), attr(2, 2, 3), 2},                             // one below 0
		{known(1, 2, 7, cmd(post, 1, 5)), attr(8, 2, 3), 2},                // another channel
		{known(1, 2, 6, cmd(fetch, 4, 1)), attr(7, 2, 3), 2},               // another user
		{known(1, 2, 6, cmd(fetch, 4, 5)), attr(2, 0, 3), 2},               // both
		{known(1, 2, 6, c), attr(7, 2, 3), 2},                              // back again
		{known(1, 2, 8, api.Cmd{}), attr(2, 0, 3), 2},                      // Nop is known, too
		{known(1, 2, 8, cmd(post, 0, 1)), attr(2, 0, 3), 2},                // and what may not be
		{known(1, 1, 8, api.Cmd{}), attr(2, 0, 3), 3},                      // a new one
		{known(1, 0, 8, c), attr(2, 0, 3), 3},                              // none that may be known
		{known(3, 1, 8, c), attr(2, 0, 3), 3},                              // nor that
		{known(2, 3, 1, cmd(post, 2, 2)), attr(1, 0, 0), 3},                // nothing interferes any more
		{known(1, mostSlot, 1, cmd(fetch, 1, 9)), attr(2, mostSlot, 0), 4}, // what interferes comes again
	} {
		x.Put(step.k)
		if a := x.Attr(c, at(2, 9)); !equal(a, step.want) || x.Len() != step.size {
			t.Errorf("after %v: %v of %d, want %v of %d", step.k, a, x.Len(), step.want, step.size)
		}
	}
}

func TestAttrIsOfAllThatIsKnown(t *testing.T) { // P8.2: whatever was put, in whatever order
	d := dice(2)
	for range 3000 {
		n := d.below(10) - 1
		x, l := New(n), d.known(40)
		for i, k := range l {
			x.Put(k)
			left := last(l[:i+1])
			c, self := d.command(), d.instance()
			want := plain(left, c, self, n)
			if a := x.Attr(c, self); !equal(a, want) || !equal(Of(left, c, self, n), want) {
				t.Fatalf("Attr(%v, %v) of %v, %d: %v, want %v", c, self, left, n, a, want)
			}
		}
		slices.Reverse(l)
		back := filled(n, last(l)...)
		front := last(l)
		slices.Reverse(front)
		turned := filled(n, front...)
		c, self := d.command(), d.instance()
		if !equal(back.Attr(c, self), turned.Attr(c, self)) || back.Len() != turned.Len() {
			t.Fatalf("the order of %v plays a part", front)
		}
	}
}

func TestLen(t *testing.T) { // P8.2
	x := New(7)
	if x.Len() != 0 {
		t.Error("a new one knows something")
	}
	for round := range 3 {
		for by := range 9 {
			for slot := range 30 {
				x.Put(known(by, slot, round, cmd(open+round, 1+by, 1+slot)))
			}
		}
		if x.Len() != 7*29 {
			t.Errorf("round %d: %d", round, x.Len())
		}
	}
}

func TestNoMoreIsKeptThanIsKnown(t *testing.T) { // P8.2: users and channels that nobody touches any more are gone
	x := New(3)
	for i := range 1000 {
		x.Put(known(2, 5, i, cmd(post, 1+i, 1+i)))
	}
	if len(x.touching) != 2 || len(x.known) != 1 {
		t.Errorf("%d keys, %d instances", len(x.touching), len(x.known))
	}
	x.Put(known(2, 5, 1, api.Cmd{}))
	if len(x.touching) != 0 || x.Len() != 1 {
		t.Errorf("%d keys, %d instances", len(x.touching), x.Len())
	}
}

func TestWhoComesLaterWaits(t *testing.T) { // P8.3
	d := dice(3)
	for range 20000 {
		a, b := d.command(), d.command()
		if !interfere(a, b) {
			continue
		}
		first, second := at(1+d.below(3), 1+d.below(9)), at(1+d.below(3), 10+d.below(9))
		k := api.Known{I: first, C: a, Seq: d.below(50)}
		x := filled(3, append(d.known(6), k)...)
		got := x.Attr(b, second)
		if got.Deps[first.By-1] < first.Slot || got.Seq <= k.Seq {
			t.Fatalf("%v does not wait for %v: %v", b, k, got)
		}
	}
}

func TestMoreMakesNothingLess(t *testing.T) { // P8.3: at any Seqs, also the greatest
	d := dice(4)
	for range 5000 {
		n, c, self, l := d.below(10)-1, d.command(), d.instance(), d.known(20)
		x, before, own := New(n), Of(nil, c, self, n), New(n).Attr(c, self)
		for i, k := range l {
			a := Of(l[:i+1], c, self, n)
			if a.Seq < before.Seq || slices.ContainsFunc(deltas(before, a), func(by int) bool { return by < 0 }) {
				t.Fatalf("%v, then %v for %v more", before, a, k)
			}
			before = a
			if slices.ContainsFunc(l[:i], func(other api.Known) bool { return other.I == k.I }) {
				continue // it would not be more, but another one in its place
			}
			x.Put(k)
			b := x.Attr(c, self)
			if b.Seq < own.Seq || slices.ContainsFunc(deltas(own, b), func(by int) bool { return by < 0 }) {
				t.Fatalf("%v, then %v for %v more", own, b, k)
			}
			own = b
		}
	}
}

// deltas are by how much the deps rise.
func deltas(a, b api.Attr) []int {
	l := slices.Clone(b.Deps)
	for i := range l {
		l[i] -= a.Deps[i]
	}
	return l
}

func TestNobodysIndex(t *testing.T) { // P1: one that New has not answered
	c := cmd(post, 1, 1)
	var none *Index
	none.Put(known(1, 1, 1, c))
	if none.Len() != 0 || !equal(none.Attr(c, at(1, 2)), attr(1, 0)) {
		t.Error(none.Len(), none.Attr(c, at(1, 2)))
	}
	var zero Index
	if zero.Len() != 0 || !equal(zero.Attr(c, at(1, 2)), attr(1, 0)) {
		t.Error(zero.Len(), zero.Attr(c, at(1, 2)))
	}
	zero.Put(known(1, 1, 1, c))
	zero.Put(known(2, 1, 1, c))
	if zero.Len() != 1 || !equal(zero.Attr(c, at(1, 2)), attr(2, 1)) {
		t.Error(zero.Len(), zero.Attr(c, at(1, 2)))
	}
}

func TestSharesNothing(t *testing.T) { // R3, R5
	c := cmd(post, 1, 1)
	l := []api.Known{known(1, 2, 9, c), known(2, 3, 1, c)}
	want := slices.Clone(l)
	x, y := filled(2, l...), New(2)
	a, b := Of(l, c, at(1, 1), 2), x.Attr(c, at(1, 1))
	if !slices.Equal(l, want) {
		t.Errorf("the list was changed: %v", l)
	}
	clear(a.Deps)
	clear(b.Deps)
	clear(l)
	for range 3 { // asking changes nothing
		if again := x.Attr(c, at(1, 1)); !equal(again, attr(10, 2, 3)) || x.Len() != 2 {
			t.Errorf("%v of %d", again, x.Len())
		}
	}
	if y.Len() != 0 || !equal(y.Attr(c, at(1, 1)), attr(1, 0, 0)) {
		t.Error("an index knows what another one was told")
	}
}

func TestMany(t *testing.T) { // P1, P8.2
	x := New(7)
	for slot := 1; slot <= 20000; slot++ {
		x.Put(known(1+slot%7, slot, slot, cmd(open+slot%(kinds-open), 1+slot%97, 1+slot%89)))
	}
	if a := x.Attr(cmd(post, 200, 200), api.Inst{}); x.Len() != 20000 || !equal(a, attr(1, make([]int, 7)...)) {
		t.Error(x.Len(), a)
	}
	if a := x.Attr(cmd(fetch, 1+20000%97, 200), at(2, 1)); a.Seq != 20001 || a.Deps[20000%7] != 20000 {
		t.Error(a)
	}
}
