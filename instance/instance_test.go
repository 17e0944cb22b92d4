package instance

import (
	"math"
	"slices"
	"strings"
	"testing"

	"colloquy/api"
)

// The limits, kinds and states are written out here, so that a wrong one of the package is seen.
const (
	mostReplica = 7
	mostSlot    = 1 << 20
	mostNumber  = 1 << 30
)

const (
	none = iota
	pre
	acc
	com
)

func at(n, by int) api.Ballot {
	return api.Ballot{N: n, By: by}
}

func waiting(seq int, deps ...int) api.Attr {
	return api.Attr{Seq: seq, Deps: deps}
}

// post and fetch are commands that may be.
func post() api.Cmd {
	return api.Cmd{User: 7, Seq: 1, Kind: 4, Channel: 3, Text: "hi"}
}

func fetch() api.Cmd {
	return api.Cmd{User: 5, Seq: 2, Kind: 7, Channel: 3, N: 1}
}

// rec is what is known of an instance that was voted for with post, among three.
func rec(status int, promised, voted api.Ballot) api.Rec {
	return api.Rec{Status: status, Promised: promised, Voted: voted, C: post(), A: waiting(4, 0, 1, 0)}
}

// bare is what is known of an instance for which nobody voted.
func bare(promised api.Ballot) api.Rec {
	return api.Rec{Promised: promised}
}

// states are the four, and wrong ones.
func states() []int {
	return []int{none, pre, acc, com, -1, 4, 5, 255, 256, math.MinInt, math.MaxInt}
}

// ballots are good ones, none, and those that may not be, on both sides of each other.
func ballots() []api.Ballot {
	return []api.Ballot{{}, at(0, 1), at(0, 2), at(0, 7), at(1, 1), at(1, 2), at(1, 3), at(2, 1), at(mostNumber, 1), at(mostNumber, 7),
		at(0, 8), at(0, -1), at(1, 0), at(1, 8), at(-1, 1), at(-1, 0), at(mostNumber+1, 1), at(math.MinInt, 1), at(math.MaxInt, 1),
		at(1, math.MinInt), at(1, math.MaxInt), at(math.MaxInt, math.MaxInt), at(math.MinInt, math.MinInt)}
}

// commands are some that may be, and some that may not be.
func commands() []api.Cmd {
	return []api.Cmd{{}, post(), fetch(), {Kind: -1}, {Kind: 8}, {User: 7}, {User: 7, Seq: 1, Kind: 4, Channel: 3}, {User: math.MinInt, Seq: math.MaxInt, Kind: math.MinInt, Channel: -1, N: -1, Text: "\xff"}}
}

// attrs are of all lengths, with numbers at the edges and wrong ones.
func attrs() []api.Attr {
	l := []api.Attr{{}, waiting(1), waiting(-1), waiting(4, 0, 1, 0), waiting(4, 0, 1), waiting(mostNumber, mostSlot, mostSlot, mostSlot), waiting(mostNumber+1, 0, 0, 0), waiting(-1, 0, 0, 0),
		waiting(1, -1, 0, 0), waiting(1, 0, mostSlot+1, 0), waiting(math.MaxInt, math.MinInt), waiting(math.MinInt, math.MaxInt)}
	for n := range 10 {
		l = append(l, waiting(2, make([]int, n)...))
	}
	return l
}

// goodBallot is what the chapter's words say, without package ballot.
func goodBallot(b api.Ballot) bool {
	return b.N >= 0 && b.N <= mostNumber && b.By >= 1 && b.By <= mostReplica
}

func less(a, b api.Ballot) bool {
	return a.N < b.N || a.N == b.N && a.By < b.By
}

// mayCmd knows only which of those made here may be.
func mayCmd(c api.Cmd) bool {
	return c == api.Cmd{} || c == post() || c == fetch()
}

func mayAttr(a api.Attr, n int) bool {
	return n >= 1 && n <= mostReplica && len(a.Deps) == n && a.Seq >= 0 && a.Seq <= mostNumber &&
		!slices.ContainsFunc(a.Deps, func(dep int) bool { return dep < 0 || dep > mostSlot })
}

// plainMay is what the chapter's words say of May.
func plainMay(r api.Rec, n int) bool {
	mayPromised, mayVoted := r.Promised == api.Ballot{} || goodBallot(r.Promised), r.Voted == api.Ballot{} || goodBallot(r.Voted)
	if r.Status < none || r.Status > com || !mayPromised || !mayVoted || less(r.Promised, r.Voted) {
		return false
	}
	if r.Status == none {
		return r.Voted == at(0, 0) && r.C == api.Cmd{} && r.A.Seq == 0 && len(r.A.Deps) == 0
	}
	return mayCmd(r.C) && mayAttr(r.A, n) && (r.Status == com || goodBallot(r.Voted))
}

// plainPromise, plainPreAccept, plainAccept and plainCommit are what the chapter's words say, each on its own.
func plainPromise(r api.Rec, b api.Ballot) (api.Rec, bool) {
	if !goodBallot(b) || r.Status == com || less(b, r.Promised) {
		return r, false
	}
	return api.Rec{Status: r.Status, Promised: b, Voted: r.Voted, C: r.C, A: r.A}, true
}

func plainPreAccept(r api.Rec, b api.Ballot, c api.Cmd, a api.Attr) (api.Rec, bool) {
	if !goodBallot(b) || r.Status == com || less(b, r.Promised) || r.Status == acc && r.Voted == b {
		return r, false
	}
	if r.Status == pre && r.Voted == b {
		return r, true
	}
	return api.Rec{Status: pre, Promised: b, Voted: b, C: c, A: a}, true
}

func plainAccept(r api.Rec, b api.Ballot, c api.Cmd, a api.Attr) (api.Rec, bool) {
	if !goodBallot(b) || r.Status == com || less(b, r.Promised) {
		return r, false
	}
	if r.Status == acc && r.Voted == b {
		return r, true
	}
	return api.Rec{Status: acc, Promised: b, Voted: b, C: c, A: a}, true
}

func plainCommit(r api.Rec, c api.Cmd, a api.Attr) api.Rec {
	if r.Status == com {
		return r
	}
	return api.Rec{Status: com, Promised: r.Promised, Voted: r.Voted, C: c, A: a}
}

// equal asks for every number, other than Same.
func equal(a, b api.Rec) bool {
	return a.Status == b.Status && a.Promised == b.Promised && a.Voted == b.Voted && a.C == b.C && a.A.Seq == b.A.Seq && slices.Equal(a.A.Deps, b.A.Deps)
}

// copied shares nothing with r.
func copied(r api.Rec) api.Rec {
	r.A.Deps = slices.Clone(r.A.Deps)
	return r
}

// check holds what was answered against what is wanted.
func check(t *testing.T, what string, r api.Rec, is bool, want api.Rec, wantIs bool) {
	t.Helper()
	if is != wantIs || !equal(r, want) {
		t.Errorf("%s: %#v %v, want %#v %v", what, r, is, want, wantIs)
	}
}

// dice are numbers that are the same in each run.
type dice uint32

func (d *dice) below(n int) int {
	*d = *d*1664525 + 1013904223
	return int(*d>>8) % n
}

func pick[T any](d *dice, l []T) T {
	return l[d.below(len(l))]
}

// any is a record of anything, right or wrong.
func (d *dice) any() api.Rec {
	return api.Rec{Status: pick(d, states()), Promised: pick(d, ballots()), Voted: pick(d, ballots()), C: pick(d, commands()), A: pick(d, attrs())}
}

func TestExample(t *testing.T) {
	r := bare(at(1, 2))
	late, is := PreAccept(r, at(0, 1), post(), waiting(4, 0, 1, 0)) // P9.3
	check(t, "PreAccept at (0, 1)", late, is, r, false)
	p, is := PreAccept(r, at(1, 2), post(), waiting(4, 0, 1, 0))
	check(t, "PreAccept at (1, 2)", p, is, rec(pre, at(1, 2), at(1, 2)), true)
	a, is := Accept(p, at(1, 2), post(), waiting(4, 0, 1, 0))
	check(t, "Accept at (1, 2)", a, is, rec(acc, at(1, 2), at(1, 2)), true)
	again, is := PreAccept(a, at(1, 2), post(), waiting(4, 0, 1, 0))
	check(t, "PreAccept at (1, 2) again", again, is, a, false)
}

func TestMayOfNone(t *testing.T) { // P9.1
	for _, n := range []int{math.MinInt, -1, 0, 1, 3, 7, 8, math.MaxInt} { // nothing that is known is asked among how many
		for _, b := range []api.Ballot{{}, at(0, 1), at(0, 7), at(1, 2), at(mostNumber, 7)} {
			if !May(bare(b), n) || !May(api.Rec{Promised: b, A: waiting(0)}, n) || !May(api.Rec{Promised: b, A: api.Attr{Deps: []int{}}}, n) {
				t.Errorf("promised %v, among %d", b, n)
			}
		}
	}
	b := at(1, 2)
	for _, r := range []api.Rec{
		{Promised: b, Voted: b}, {Promised: b, Voted: at(0, 1)}, {Voted: b}, // it was voted for
		{Promised: b, C: post()}, {Promised: b, C: api.Cmd{User: 1}}, {C: api.Cmd{Text: "a"}}, {C: api.Cmd{N: -1}}, // there is a command
		{Promised: b, A: waiting(1)}, {A: waiting(-1)}, {A: waiting(0, 0)}, {Promised: b, A: waiting(0, 0, 0, 0)}, // or an attribute
		{Promised: at(1, 0)}, {Promised: at(0, 8)}, {Promised: at(-1, 1)}, {Promised: at(mostNumber+1, 1)}, {Promised: at(0, -1)},
	} {
		if May(r, 3) || May(r, 1) {
			t.Errorf("%#v", r)
		}
	}
}

func TestMayOfVotes(t *testing.T) { // P9.1
	for _, x := range []struct {
		promised, voted api.Ballot
		voter, heard    bool // may it be of what was voted for; of what is committed
	}{
		{at(0, 1), at(0, 1), true, true},
		{at(1, 2), at(0, 1), true, true},
		{at(1, 2), at(1, 1), true, true},
		{at(mostNumber, 7), at(mostNumber, 7), true, true},
		{at(1, 2), at(0, 7), true, true},
		{at(0, 0), at(0, 0), false, true}, // what is committed may be heard of without a vote
		{at(1, 2), at(0, 0), false, true},
		{at(0, 0), at(0, 1), false, false}, // voted at more than was promised
		{at(0, 1), at(0, 2), false, false},
		{at(1, 1), at(1, 2), false, false},
		{at(1, 7), at(2, 1), false, false},
		{at(1, 0), at(0, 1), false, false}, // ballots that may not be
		{at(1, 8), at(0, 1), false, false},
		{at(mostNumber+1, 1), at(0, 1), false, false},
		{at(1, 2), at(0, 8), false, false},
		{at(1, 2), at(0, -1), false, false},
		{at(1, 2), at(-1, 1), false, false},
		{at(2, 2), at(1, 0), false, false},
		{at(-1, 1), at(-1, 1), false, false},
		{at(math.MaxInt, 1), at(math.MinInt, 1), false, false},
	} {
		for status, want := range map[int]bool{pre: x.voter, acc: x.voter, com: x.heard, none: false, -1: false, 4: false, math.MinInt: false, math.MaxInt: false} {
			if r := rec(status, x.promised, x.voted); May(r, 3) != want {
				t.Errorf("%#v: %v", r, !want)
			}
		}
	}
}

func TestMayOfWhatIsVotedFor(t *testing.T) { // P9.1
	for _, status := range []int{pre, acc, com} {
		r := rec(status, at(1, 2), at(0, 1))
		for _, n := range []int{math.MinInt, -1, 0, 1, 2, 3, 4, 5, 7, 8, math.MaxInt} {
			if May(r, n) != (n == 3) {
				t.Errorf("%d, of three, among %d", status, n)
			}
		}
		for size := range 10 {
			many := r
			many.A = waiting(1, make([]int, size)...)
			if May(many, size) != (size >= 1 && size <= mostReplica) {
				t.Errorf("%d, among %d", status, size)
			}
		}
		for _, a := range []api.Attr{{}, waiting(0), waiting(-1, 0, 0, 0), waiting(mostNumber+1, 0, 0, 0), waiting(1, 0, 0, -1), waiting(1, mostSlot+1, 0, 0), waiting(1, 0, 0), waiting(1, 0, 0, 0, 0)} {
			wrong := r
			if wrong.A = a; May(wrong, 3) {
				t.Errorf("%d of %v", status, a)
			}
		}
		for _, c := range []api.Cmd{{Kind: -1}, {Kind: 8}, {User: 7}, {Kind: 4, User: 7, Seq: 1, Channel: 3}, {Kind: 7, User: 7, Seq: 1, Channel: 3}, {Kind: 1, User: 0, Seq: 1, Channel: 3}, {Kind: 4, User: 7, Seq: 1, Channel: 3, Text: strings.Repeat("x", 65)}} {
			wrong := r
			if wrong.C = c; May(wrong, 3) {
				t.Errorf("%d of %v", status, c)
			}
		}
		for _, c := range []api.Cmd{{}, fetch(), {Kind: 4, User: 7, Seq: 1, Channel: 3, Text: strings.Repeat("x", 64)}} { // Nop may be committed, too
			right := r
			right.C, right.A = c, waiting(mostNumber, mostSlot, 0, mostSlot)
			if !May(right, 3) {
				t.Errorf("%d of %v", status, c)
			}
		}
	}
}

func TestMayOfAll(t *testing.T) { // P9.1
	good := 0
	for _, status := range states() {
		for _, promised := range ballots() {
			for _, voted := range ballots() {
				for _, c := range commands() {
					for _, a := range attrs() {
						r, n := api.Rec{Status: status, Promised: promised, Voted: voted, C: c, A: a}, len(a.Deps)
						if May(r, n) != plainMay(r, n) || May(r, 3) != plainMay(r, 3) {
							t.Fatalf("%#v among %d, and 3: %v %v", r, n, May(r, n), May(r, 3))
						}
						if plainMay(r, n) {
							good++
						}
					}
				}
			}
		}
	}
	if good == 0 {
		t.Error("none may be")
	}
}

func TestSame(t *testing.T) { // P9.1
	for _, r := range []api.Rec{{}, bare(at(1, 2)), rec(pre, at(1, 2), at(0, 1)), rec(acc, at(1, 2), at(1, 2)), rec(com, at(1, 2), at(0, 0)), rec(-7, at(-1, 9), at(9, -1))} {
		if !Same(r, r) || !Same(r, copied(r)) {
			t.Errorf("%#v is another one than itself", r)
		}
		others := []api.Rec{}
		for _, change := range []func(*api.Rec){
			func(o *api.Rec) { o.Status++ },
			func(o *api.Rec) { o.Promised.N++ },
			func(o *api.Rec) { o.Promised.By++ },
			func(o *api.Rec) { o.Voted.N++ },
			func(o *api.Rec) { o.Voted.By++ },
			func(o *api.Rec) { o.Promised, o.Voted = at(77, 1), at(76, 1) },
			func(o *api.Rec) { o.C.User++ },
			func(o *api.Rec) { o.C.Seq++ },
			func(o *api.Rec) { o.C.Kind++ },
			func(o *api.Rec) { o.C.Channel++ },
			func(o *api.Rec) { o.C.N++ },
			func(o *api.Rec) { o.C.Text += "a" },
			func(o *api.Rec) { o.A.Seq++ },
			func(o *api.Rec) { o.A.Seq-- },
			func(o *api.Rec) { o.A.Deps = append(o.A.Deps, 1) },
			func(o *api.Rec) { o.A.Deps = append(o.A.Deps, 0, 0, -1) },
			func(o *api.Rec) { o.A.Deps = append([]int{5}, o.A.Deps...) },
		} {
			o := copied(r)
			change(&o)
			others = append(others, o)
		}
		for _, o := range others {
			if Same(r, o) || Same(o, r) {
				t.Errorf("%#v and %#v", r, o)
			}
		}
		long := copied(r)
		long.A.Deps = append(long.A.Deps, 0, 0, 0, 0, 0, 0, 0, 0, 0) // who has no place has the dep 0
		if !Same(r, long) || !Same(long, r) {
			t.Errorf("%#v and %#v", r, long)
		}
	}
	if !Same(api.Rec{A: api.Attr{Deps: []int{}}}, api.Rec{}) {
		t.Error("no deps, and none")
	}
	if Same(api.Rec{Promised: at(1, 2)}, api.Rec{Voted: at(1, 2)}) {
		t.Error("promised, and voted")
	}
}

func TestPromise(t *testing.T) { // P9.2
	for _, status := range []int{none, pre, acc} {
		r := rec(status, at(1, 2), at(0, 1))
		for _, x := range []struct {
			b  api.Ballot
			is bool
		}{
			{at(1, 2), true}, {at(1, 3), true}, {at(2, 1), true}, {at(mostNumber, 7), true}, // the same, or more
			{at(1, 1), false}, {at(0, 1), false}, {at(0, 7), false}, // less
			{at(0, 0), false}, {at(2, 0), false}, {at(2, 8), false}, {at(2, -1), false}, {at(mostNumber+1, 2), false}, {at(math.MaxInt, 7), false}, {at(-1, 2), false}, // not good
		} {
			want := r
			if x.is {
				want.Promised = x.b
			}
			got, is := Promise(r, x.b)
			check(t, "Promise", got, is, want, x.is)
		}
	}
	r := rec(com, at(0, 1), at(0, 1))
	for _, b := range ballots() {
		got, is := Promise(r, b)
		check(t, "Promise of what is committed", got, is, r, false)
	}
	got, is := Promise(api.Rec{}, at(0, 1))
	check(t, "Promise of nothing", got, is, bare(at(0, 1)), true)
	got, is = Promise(api.Rec{}, api.Ballot{})
	check(t, "Promise of no ballot", got, is, api.Rec{}, false)
}

func TestPreAccept(t *testing.T) { // P9.3
	c, a := fetch(), waiting(9, 8, 7, 6)
	at12 := api.Rec{Status: pre, Promised: at(1, 2), Voted: at(1, 2), C: c, A: a}
	for _, x := range []struct {
		what string
		r    api.Rec
		b    api.Ballot
		want api.Rec
		is   bool
	}{
		{"of nothing", api.Rec{}, at(1, 2), at12, true},
		{"of what was promised", bare(at(1, 2)), at(1, 2), at12, true},
		{"of less that was promised", bare(at(1, 1)), at(1, 2), at12, true},
		{"of more that was promised", bare(at(1, 3)), at(1, 2), bare(at(1, 3)), false},
		{"once more", rec(pre, at(1, 2), at(1, 2)), at(1, 2), rec(pre, at(1, 2), at(1, 2)), true},
		{"once more, but more was promised", rec(pre, at(1, 3), at(1, 2)), at(1, 2), rec(pre, at(1, 3), at(1, 2)), false},
		{"of what was pre-accepted ahead", rec(pre, at(0, 1), at(0, 1)), at(1, 2), at12, true},
		{"of that, with this one promised", rec(pre, at(1, 2), at(0, 1)), at(1, 2), at12, true},
		{"of what was accepted ahead", rec(acc, at(0, 1), at(0, 1)), at(1, 2), at12, true},
		{"of what is accepted there", rec(acc, at(1, 2), at(1, 2)), at(1, 2), rec(acc, at(1, 2), at(1, 2)), false},
		{"of what is accepted above", rec(acc, at(2, 1), at(2, 1)), at(1, 2), rec(acc, at(2, 1), at(2, 1)), false},
		{"of what is committed", rec(com, at(0, 1), at(0, 1)), at(1, 2), rec(com, at(0, 1), at(0, 1)), false},
		{"of what is committed there", rec(com, at(1, 2), at(1, 2)), at(1, 2), rec(com, at(1, 2), at(1, 2)), false},
		{"at none", api.Rec{}, at(0, 0), api.Rec{}, false},
		{"at none once more", rec(pre, at(0, 0), at(0, 0)), at(0, 0), rec(pre, at(0, 0), at(0, 0)), false},
		{"at nobody's", api.Rec{}, at(1, 0), api.Rec{}, false},
		{"at one of 8", api.Rec{}, at(1, 8), api.Rec{}, false},
		{"at one that is too great", api.Rec{}, at(mostNumber+1, 1), api.Rec{}, false},
	} {
		got, is := PreAccept(x.r, x.b, c, a)
		check(t, "PreAccept "+x.what, got, is, x.want, x.is)
	}
}

func TestAccept(t *testing.T) { // P9.3
	c, a := fetch(), waiting(9, 8, 7, 6)
	at12 := api.Rec{Status: acc, Promised: at(1, 2), Voted: at(1, 2), C: c, A: a}
	for _, x := range []struct {
		what string
		r    api.Rec
		b    api.Ballot
		want api.Rec
		is   bool
	}{
		{"of nothing", api.Rec{}, at(1, 2), at12, true},
		{"of what was promised", bare(at(1, 2)), at(1, 2), at12, true},
		{"of less that was promised", bare(at(0, 7)), at(1, 2), at12, true},
		{"of more that was promised", bare(at(2, 1)), at(1, 2), bare(at(2, 1)), false},
		{"of what is pre-accepted there", rec(pre, at(1, 2), at(1, 2)), at(1, 2), at12, true},
		{"of what was pre-accepted ahead", rec(pre, at(1, 2), at(0, 1)), at(1, 2), at12, true},
		{"of what is pre-accepted there, but more was promised", rec(pre, at(1, 3), at(1, 2)), at(1, 2), rec(pre, at(1, 3), at(1, 2)), false},
		{"once more", rec(acc, at(1, 2), at(1, 2)), at(1, 2), rec(acc, at(1, 2), at(1, 2)), true},
		{"once more, but more was promised", rec(acc, at(1, 3), at(1, 2)), at(1, 2), rec(acc, at(1, 3), at(1, 2)), false},
		{"of what was accepted ahead", rec(acc, at(0, 1), at(0, 1)), at(1, 2), at12, true},
		{"of what is committed", rec(com, at(0, 1), at(0, 1)), at(1, 2), rec(com, at(0, 1), at(0, 1)), false},
		{"of what is committed there", rec(com, at(1, 2), at(1, 2)), at(1, 2), rec(com, at(1, 2), at(1, 2)), false},
		{"at none", api.Rec{}, at(0, 0), api.Rec{}, false},
		{"at none once more", rec(acc, at(0, 0), at(0, 0)), at(0, 0), rec(acc, at(0, 0), at(0, 0)), false},
		{"at one of -1", api.Rec{}, at(1, -1), api.Rec{}, false},
		{"at one that is too great", api.Rec{}, at(math.MaxInt, 1), api.Rec{}, false},
	} {
		got, is := Accept(x.r, x.b, c, a)
		check(t, "Accept "+x.what, got, is, x.want, x.is)
	}
}

func TestVoteForWhatMayNotBe(t *testing.T) { // P9.3, P9.4: commands and attributes are not asked whether they may be
	for _, c := range commands() {
		for _, a := range attrs() {
			p, is := PreAccept(bare(at(0, 1)), at(0, 1), c, a)
			check(t, "PreAccept", p, is, api.Rec{Status: pre, Promised: at(0, 1), Voted: at(0, 1), C: c, A: a}, true)
			x, is := Accept(bare(at(0, 1)), at(0, 1), c, a)
			check(t, "Accept", x, is, api.Rec{Status: acc, Promised: at(0, 1), Voted: at(0, 1), C: c, A: a}, true)
			z := Commit(bare(at(0, 1)), c, a)
			check(t, "Commit", z, true, api.Rec{Status: com, Promised: at(0, 1), C: c, A: a}, true)
		}
	}
}

func TestWrongRecords(t *testing.T) { // P9.2, P9.3: what may not be is gone by the words alone
	r := rec(pre, at(0, 1), at(1, 2)) // voted at more than was promised: it stays so, where nothing is new
	got, is := PreAccept(r, at(1, 2), fetch(), waiting(1))
	check(t, "PreAccept", got, is, r, true)
	r.Status = acc
	got, is = Accept(r, at(1, 2), fetch(), waiting(1))
	check(t, "Accept", got, is, r, true)
	got, is = PreAccept(r, at(1, 2), fetch(), waiting(1))
	check(t, "PreAccept", got, is, r, false)
	for _, status := range []int{-1, 4, math.MinInt, math.MaxInt} { // a state that is none is not committed, nor was it voted for
		r := rec(status, at(1, 2), at(1, 2))
		got, is := Promise(r, at(1, 3))
		check(t, "Promise", got, is, rec(status, at(1, 3), at(1, 2)), true)
		got, is = PreAccept(r, at(1, 2), fetch(), waiting(1, 0))
		check(t, "PreAccept", got, is, api.Rec{Status: pre, Promised: at(1, 2), Voted: at(1, 2), C: fetch(), A: waiting(1, 0)}, true)
		got, is = Accept(r, at(1, 2), fetch(), waiting(1, 0))
		check(t, "Accept", got, is, api.Rec{Status: acc, Promised: at(1, 2), Voted: at(1, 2), C: fetch(), A: waiting(1, 0)}, true)
		got = Commit(r, fetch(), waiting(1, 0))
		check(t, "Commit", got, true, api.Rec{Status: com, Promised: at(1, 2), Voted: at(1, 2), C: fetch(), A: waiting(1, 0)}, true)
	}
}

func TestStepsOfAll(t *testing.T) { // P9.2, P9.3, P9.4, P1: of every state and all ballots
	c, a := fetch(), waiting(9, 8, 7, 6)
	for _, status := range states() {
		for _, promised := range ballots() {
			for _, voted := range ballots() {
				r := rec(status, promised, voted)
				check(t, "Commit", Commit(r, c, a), true, plainCommit(r, c, a), true)
				for _, b := range ballots() {
					got, is := Promise(r, b)
					want, wantIs := plainPromise(r, b)
					check(t, "Promise", got, is, want, wantIs)
					got, is = PreAccept(r, b, c, a)
					want, wantIs = plainPreAccept(r, b, c, a)
					check(t, "PreAccept", got, is, want, wantIs)
					got, is = Accept(r, b, c, a)
					want, wantIs = plainAccept(r, b, c, a)
					check(t, "Accept", got, is, want, wantIs)
				}
				if t.Failed() {
					return
				}
			}
		}
	}
}

func TestStepsOfAny(t *testing.T) { // P1, R5: of anything at all, twice
	d := dice(1)
	for range 50000 {
		r, b, c, a := d.any(), pick(&d, ballots()), pick(&d, commands()), pick(&d, attrs())
		for range 2 {
			got, is := Promise(r, b)
			want, wantIs := plainPromise(r, b)
			check(t, "Promise", got, is, want, wantIs)
			got, is = PreAccept(r, b, c, a)
			want, wantIs = plainPreAccept(r, b, c, a)
			check(t, "PreAccept", got, is, want, wantIs)
			got, is = Accept(r, b, c, a)
			want, wantIs = plainAccept(r, b, c, a)
			check(t, "Accept", got, is, want, wantIs)
			check(t, "Commit", Commit(r, c, a), true, plainCommit(r, c, a), true)
		}
		if t.Failed() {
			return
		}
		other := d.any()
		if Same(r, other) != Same(other, r) || !Same(r, r) {
			t.Fatalf("%#v and %#v", r, other)
		}
	}
}

func TestCommit(t *testing.T) { // P9.4
	c, a := fetch(), waiting(9, 8, 7, 6)
	for _, r := range []api.Rec{{}, bare(at(1, 2)), rec(pre, at(1, 2), at(0, 1)), rec(pre, at(1, 2), at(1, 2)), rec(acc, at(1, 2), at(0, 1)), rec(acc, at(0, 1), at(0, 1))} {
		z := Commit(r, c, a)
		check(t, "Commit", z, true, api.Rec{Status: com, Promised: r.Promised, Voted: r.Voted, C: c, A: a}, true)
		if !May(z, 3) {
			t.Errorf("%#v may not be", z)
		}
		check(t, "Commit once more", Commit(z, post(), waiting(1, 1, 1, 1)), true, z, true)
		check(t, "Commit of noughts", Commit(z, api.Cmd{}, api.Attr{}), true, z, true)
	}
	check(t, "Commit of Nop", Commit(api.Rec{}, api.Cmd{}, waiting(0, 0, 0, 0)), true, api.Rec{Status: com, A: waiting(0, 0, 0, 0)}, true)
}

// step does one of the four, by chance.
func (d *dice) step(r api.Rec) api.Rec {
	b, c, a := at(d.below(4), 1+d.below(3)), pick(d, []api.Cmd{{}, post(), fetch()}), waiting(d.below(5), d.below(3), d.below(3), d.below(3))
	switch d.below(8) {
	case 0, 1:
		r, _ = Promise(r, b)
	case 2, 3:
		r, _ = PreAccept(r, b, c, a)
	case 4, 5:
		r, _ = Accept(r, b, c, a)
	case 6:
		r, _ = pick(d, []func(api.Rec, api.Ballot, api.Cmd, api.Attr) (api.Rec, bool){PreAccept, Accept})(r, pick(d, append(ballots(), r.Voted)), c, a)
	default:
		if d.below(4) == 0 {
			r = Commit(r, c, a)
		}
	}
	return r
}

func TestNothingFalls(t *testing.T) { // P9.5: by whatever steps
	d := dice(2)
	committed, accepted := 0, 0
	for range 20000 {
		r := api.Rec{}
		votes := map[api.Ballot]api.Rec{}
		for range 12 {
			next := d.step(r)
			if !May(next, 3) {
				t.Fatalf("%#v, then %#v, which may not be", r, next)
			}
			if less(next.Promised, r.Promised) || less(next.Voted, r.Voted) {
				t.Fatalf("%#v, then %#v, which is less", r, next)
			}
			if r.Status == com && !equal(next, r) {
				t.Fatalf("%#v, then %#v, but it was committed", r, next)
			}
			if next.Status == pre || next.Status == acc {
				was, there := votes[next.Voted]
				becomes := was.Status == pre && next.Status == acc
				if there && !becomes && (was.Status != next.Status || was.C != next.C || !equal(api.Rec{A: was.A}, api.Rec{A: next.A})) {
					t.Fatalf("%#v, then %#v at the same ballot", was, next)
				}
				if becomes {
					accepted++
				}
				votes[next.Voted] = copied(next)
			}
			if next.Status == com && r.Status != com {
				committed++
			}
			r = next
		}
	}
	if committed == 0 || accepted == 0 {
		t.Error("the steps went nowhere", committed, accepted)
	}
}

func TestSharesNothing(t *testing.T) { // R3: whatever is answered, also where nothing is new
	for _, status := range []int{none, pre, acc, com} {
		for _, b := range []api.Ballot{{}, at(0, 1), at(1, 2), at(2, 1)} { // refused, too late, once more, new
			for _, call := range []func(r api.Rec, a api.Attr) api.Rec{
				func(r api.Rec, a api.Attr) api.Rec { r, _ = Promise(r, b); return r },
				func(r api.Rec, a api.Attr) api.Rec { r, _ = PreAccept(r, b, fetch(), a); return r },
				func(r api.Rec, a api.Attr) api.Rec { r, _ = Accept(r, b, fetch(), a); return r },
				func(r api.Rec, a api.Attr) api.Rec { return Commit(r, fetch(), a) },
			} {
				r, a := rec(status, at(1, 2), at(1, 2)), api.Attr{Seq: 9, Deps: []int{8, 7, 6, 5}[:3]}
				got := call(r, a)
				if May(r, 3); !equal(r, rec(status, at(1, 2), at(1, 2))) || !slices.Equal(a.Deps[:4], []int{8, 7, 6, 5}) {
					t.Errorf("%#v or %v was changed", r, a)
				}
				want := copied(got)
				clear(r.A.Deps)
				clear(a.Deps)
				if !equal(got, want) {
					t.Errorf("%#v is of what was handed in", want)
				}
				r, a = rec(status, at(1, 2), at(1, 2)), api.Attr{Seq: 9, Deps: []int{8, 7, 6, 5}[:3]}
				got = call(r, a)
				clear(got.A.Deps)
				_ = append(got.A.Deps, 99)
				if !equal(r, rec(status, at(1, 2), at(1, 2))) || !slices.Equal(a.Deps[:4], []int{8, 7, 6, 5}) {
					t.Errorf("%#v or %v is of what was answered", r, a)
				}
			}
		}
	}
	room := []int{1, 2, 3}
	got := Commit(api.Rec{}, post(), api.Attr{Deps: room[:0]})
	if _ = append(got.A.Deps, 9); room[0] != 1 {
		t.Error("what stands behind a list's end was changed")
	}
}

func TestManyDeps(t *testing.T) { // P1
	long := waiting(1, make([]int, 1<<16)...)
	long.Deps[1<<16-1] = 5
	r, is := PreAccept(api.Rec{}, at(0, 1), post(), long)
	check(t, "PreAccept", r, is, api.Rec{Status: pre, Promised: at(0, 1), Voted: at(0, 1), C: post(), A: long}, true)
	if May(r, 1<<16) || May(r, 7) || !Same(r, copied(r)) || Same(r, api.Rec{Status: pre, Promised: at(0, 1), Voted: at(0, 1), C: post(), A: waiting(1)}) {
		t.Error("of many")
	}
}
