package regain

import (
	"math"
	"math/bits"
	"slices"
	"testing"

	"colloquy/api"
)

// The limits, states and choices are written out here, so that a wrong one of the package is seen.
const (
	mostReplica = 7
	mostNumber  = 1 << 30
)

const (
	none = iota
	pre
	acc
	com
)

const (
	toWait = iota
	isDone
	toTake
	toAsk
	toFill
)

func at(n, by int) api.Ballot {
	return api.Ballot{N: n, By: by}
}

func waiting(seq int, deps ...int) api.Attr {
	return api.Attr{Seq: seq, Deps: deps}
}

func post() api.Cmd {
	return api.Cmd{User: 7, Seq: 1, Kind: 4, Channel: 3, Text: "hi"}
}

func fetch() api.Cmd {
	return api.Cmd{User: 5, Seq: 2, Kind: 7, Channel: 3, N: 1}
}

// few and more are attributes among three, of which the second one waits for more.
func few() api.Attr {
	return waiting(1, 0, 0, 0)
}

func more() api.Attr {
	return waiting(4, 0, 1, 0)
}

// vote is what somebody tells who has that status, voted for at a ballot.
func vote(status int, b api.Ballot, c api.Cmd, a api.Attr) api.Rec {
	return api.Rec{Status: status, Promised: b, Voted: b, C: c, A: a}
}

func from(by int, r api.Rec) api.Report {
	return api.Report{From: by, R: r}
}

// of are reports of the replicas 1, 2 and so on.
func of(l ...api.Rec) []api.Report {
	var out []api.Report
	for i, r := range l {
		out = append(out, from(i+1, r))
	}
	return out
}

func choice(kind int, c api.Cmd, a api.Attr) api.Choice {
	return api.Choice{Kind: kind, C: c, A: a}
}

func bare(kind int) api.Choice {
	return api.Choice{Kind: kind}
}

// plainCounting is what the chapter says of the reports that count, as a list.
func plainCounting(n int, l []api.Report) []api.Rec {
	var out []api.Rec
	for by := 1; by <= plainN(n); by++ {
		for _, r := range l {
			if r.From == by {
				out = append(out, r.R)
				break
			}
		}
	}
	return out
}

func plainN(n int) int {
	switch {
	case n < 1:
		return 1
	case n > mostReplica:
		return mostReplica
	}
	return n
}

func plainQuorum(n int) int {
	return []int{1, 2, 2, 3, 3, 4, 4}[plainN(n)-1]
}

func less(a, b api.Ballot) bool {
	return a.N < b.N || a.N == b.N && a.By < b.By
}

// plainSame holds the deps against each other behind the end of either, where they are 0.
func plainSame(a, b api.Rec) bool {
	dep := func(l []int, i int) int {
		if i < len(l) {
			return l[i]
		}
		return 0
	}
	for i := range len(a.A.Deps) + len(b.A.Deps) {
		if dep(a.A.Deps, i) != dep(b.A.Deps, i) {
			return false
		}
	}
	return a.C == b.C && a.A.Seq == b.A.Seq
}

func plainAgree(owner int, l []api.Rec) bool {
	for _, a := range l {
		if a.Status != pre || a.Voted.N != 0 || a.Voted.By != owner {
			return false
		}
		for _, b := range l {
			if !plainSame(a, b) {
				return false
			}
		}
	}
	return true
}

func plainFast(n, owner int, l []api.Report) bool {
	told := plainCounting(n, l)
	return len(told) == plainN(n) && plainAgree(owner, told)
}

// plainGreatest is the place of the one of a status that none of them is above, and none ahead of it the same; -1 if there is none.
func plainGreatest(status int, l []api.Rec) int {
	for i, a := range l {
		if a.Status == status && !slices.ContainsFunc(l, func(b api.Rec) bool { return b.Status == status && less(a.Voted, b.Voted) }) {
			return i
		}
	}
	return -1
}

// plainDecide is what the chapter's words say, one behind the other.
func plainDecide(n, owner int, l []api.Report) api.Choice {
	told := plainCounting(n, l)
	for _, r := range told {
		if r.Status == com {
			return choice(isDone, r.C, r.A)
		}
	}
	if len(told) < plainQuorum(n) {
		return bare(toWait)
	}
	a, p := plainGreatest(acc, told), plainGreatest(pre, told)
	if a >= 0 && (p < 0 || !less(told[a].Voted, told[p].Voted)) {
		return choice(toTake, told[a].C, told[a].A)
	}
	if plainAgree(owner, told) {
		return choice(toTake, told[0].C, told[0].A)
	}
	if p >= 0 {
		return choice(toAsk, told[p].C, api.Attr{})
	}
	return bare(toFill)
}

func equal(a, b api.Choice) bool {
	return a.Kind == b.Kind && a.C == b.C && a.A.Seq == b.A.Seq && slices.Equal(a.A.Deps, b.A.Deps)
}

// check ends a test at its first fault, as some of them ask thousands of times.
func check(t *testing.T, what string, n, owner int, l []api.Report, want api.Choice) {
	t.Helper()
	if got := Decide(n, owner, l); !equal(got, want) {
		t.Fatalf("%s: of %d, of owner %d, %v: %v, want %v", what, n, owner, l, got, want)
	}
}

// dice are numbers that are the same in each run.
type dice uint32

func (d *dice) below(n int) int {
	*d = *d*1664525 + 1013904223
	return int(*d>>8) % n
}

func pick[T any](d *dice, l []T) T {
	return l[d.below(len(l))]
}

// wrong are numbers of any kind, also none that anybody has.
func wrong() []int {
	return []int{math.MinInt, math.MinInt + 1, -mostNumber, -7, -1, 0, 1, 2, 3, 4, 5, 6, 7, 8, 9, 100, 256 + 1, 1<<32 + 1, mostNumber, math.MaxInt}
}

func TestQuorum(t *testing.T) { // P10.1
	for n, want := range map[int]int{1: 1, 2: 2, 3: 2, 4: 3, 5: 3, 6: 4, 7: 4, 0: 1, -1: 1, -9: 1, math.MinInt: 1, 8: 4, 9: 4, 99: 4, math.MaxInt: 4} {
		if q := Quorum(n); q != want {
			t.Errorf("of %d: %d, want %d", n, q, want)
		}
	}
}

func TestFast(t *testing.T) { // P10.1
	for n := 1; n <= mostReplica; n++ {
		for owner := 1; owner <= n; owner++ {
			v := vote(pre, at(0, owner), post(), waiting(4, make([]int, n)...))
			l := of(slices.Repeat([]api.Rec{v}, n)...)
			if !Fast(n, owner, l) {
				t.Errorf("of all %d, of %d", n, owner)
			}
			if Fast(n, owner, l[1:]) || Fast(n, owner, l[:n-1]) || Fast(n, owner, nil) || n < mostReplica && Fast(n+1, owner, l) {
				t.Errorf("of %d of %d", n-1, n)
			}
			if Fast(n, owner+1, l) || Fast(n, owner-1, l) || Fast(n, -owner, l) {
				t.Errorf("of %d, of another than %d", n, owner)
			}
			back := slices.Clone(l)
			slices.Reverse(back)
			if !Fast(n, owner, back) || !Fast(n, owner, append(append(of(v), from(0, api.Rec{}), from(n+1, api.Rec{}), from(-1, api.Rec{})), back...)) {
				t.Errorf("of all %d, in another order, with reports of nobody", n)
			}
			if Fast(n, owner, append([]api.Report{from(n, api.Rec{})}, l...)) || !Fast(n, owner, append(slices.Clone(l), from(n, api.Rec{}))) {
				t.Errorf("of all %d, the last one twice", n)
			}
			for i := range l {
				checkOther(t, n, owner, l, i)
			}
		}
	}
}

// checkOther changes the report at i in each way in turn that makes it another one.
func checkOther(t *testing.T, n, owner int, l []api.Report, i int) {
	t.Helper()
	for k, change := range []func(*api.Rec){
		func(r *api.Rec) { r.Status = none },
		func(r *api.Rec) { r.Status = acc },
		func(r *api.Rec) { r.Status = com },
		func(r *api.Rec) { r.Status = -1 },
		func(r *api.Rec) { r.Status = 256 + pre },
		func(r *api.Rec) { r.Voted.N = 1 },
		func(r *api.Rec) { r.Voted.N = -1 },
		func(r *api.Rec) { r.Voted.By++ },
		func(r *api.Rec) { r.Voted = api.Ballot{} },
	} {
		other := slices.Clone(l)
		if change(&other[i].R); Fast(n, owner, other) {
			t.Errorf("%d of %d is not first, by change %d", i+1, n, k)
		}
	}
	for k, change := range []func(*api.Rec){
		func(r *api.Rec) { r.C.User++ },
		func(r *api.Rec) { r.C.Seq++ },
		func(r *api.Rec) { r.C.Kind++ },
		func(r *api.Rec) { r.C.Channel++ },
		func(r *api.Rec) { r.C.N++ },
		func(r *api.Rec) { r.C.Text += "a" },
		func(r *api.Rec) { r.C = api.Cmd{} },
		func(r *api.Rec) { r.A.Seq++ },
		func(r *api.Rec) { r.A.Seq-- },
		func(r *api.Rec) { r.A.Deps = append(slices.Clone(r.A.Deps), 1) },
		func(r *api.Rec) { r.A.Deps = append([]int{1}, r.A.Deps[1:]...) },
		func(r *api.Rec) { r.A.Deps = append([]int{-1}, r.A.Deps[1:]...) },
		func(r *api.Rec) { r.A = api.Attr{} },
	} {
		other := slices.Clone(l)
		if change(&other[i].R); Fast(n, owner, other) != (n == 1) { // one alone agrees with itself
			t.Errorf("%d of %d is another one, by change %d", i+1, n, k)
		}
	}
	for k, change := range []func(*api.Rec){
		func(r *api.Rec) { r.Promised = at(5, 2) },
		func(r *api.Rec) { r.Promised = api.Ballot{} },
		func(r *api.Rec) { r.A.Deps = nil }, // who has no place has the dep 0
		func(r *api.Rec) { r.A.Deps = make([]int, 20) },
	} {
		other := slices.Clone(l)
		if change(&other[i].R); !Fast(n, owner, other) {
			t.Errorf("%d of %d is the same, by change %d", i+1, n, k)
		}
	}
}

func TestExamples(t *testing.T) { // P10.2
	check(t, "two of None", 3, 1, of(api.Rec{}, api.Rec{}), bare(toFill))
	check(t, "one Pre, one None", 3, 1, of(vote(pre, at(0, 1), post(), few()), api.Rec{}), choice(toAsk, post(), api.Attr{}))
}

func TestDone(t *testing.T) { // P10.2
	c := api.Rec{Status: com, C: post(), A: more()} // it may be heard of without any vote
	d := vote(com, at(9, 3), fetch(), few())
	want := choice(isDone, post(), more())
	high := vote(acc, at(99, 7), fetch(), few())
	for n := 1; n <= mostReplica; n++ {
		for by := 1; by <= n; by++ {
			check(t, "one alone, with no quorum", n, 1, []api.Report{from(by, c)}, want)
			check(t, "behind its own", n, 1, []api.Report{from(by, c), from(by, d)}, want)
		}
	}
	check(t, "ahead of what was accepted", 3, 1, of(high, c, high), want)
	check(t, "ahead of what all agree on", 3, 1, of(vote(pre, at(0, 1), fetch(), few()), vote(pre, at(0, 1), fetch(), few()), c), want)
	check(t, "in the order of the replicas", 3, 1, []api.Report{from(3, d), from(2, c)}, want)
	check(t, "by no ballot", 3, 1, of(c, d, d), want)
	check(t, "of Nop", 3, 1, of(api.Rec{Status: com, A: few()}, c), choice(isDone, api.Cmd{}, few()))
	check(t, "behind another one of the same replica", 3, 1, []api.Report{from(1, api.Rec{}), from(1, c), from(2, api.Rec{})}, bare(toFill))
	for _, by := range []int{0, -1, 4, 8, math.MinInt, math.MaxInt} {
		check(t, "of nobody", 3, 1, []api.Report{from(by, c)}, bare(toWait))
	}
}

func TestWait(t *testing.T) { // P10.2
	for n := 1; n <= mostReplica; n++ {
		for _, r := range []api.Rec{{}, vote(pre, at(0, 1), post(), few()), vote(acc, at(0, 1), post(), few())} {
			for _, l := range [][]api.Report{nil, {}, {from(0, r), from(n+1, r), from(-n, r), from(100, r)}} {
				check(t, "of none", n, 1, l, bare(toWait))
			}
			for told := 1; told <= n; told++ {
				l := of(slices.Repeat([]api.Rec{r}, told)...)
				l = append(l, l...)
				l = append(l, from(0, r), from(n+1, r), from(n+2, r), from(-1, r))
				if got := Decide(n, 1, l).Kind; (got == toWait) != (told < plainQuorum(n)) {
					t.Errorf("%d tell, of %d: %d", told, n, got)
				}
				for i := range l { // the last ones are as good
					l[i].From = n + 1 - l[i].From
				}
				if got := Decide(n, 1, l).Kind; (got == toWait) != (told < plainQuorum(n)) {
					t.Errorf("the last %d tell, of %d: %d", told, n, got)
				}
			}
		}
	}
}

func TestTakeWhatWasAccepted(t *testing.T) { // P10.2
	took := func(c api.Cmd, a api.Attr) api.Choice { return choice(toTake, c, a) }
	p := vote(acc, at(1, 2), post(), more())
	f := func(status, n, by int) api.Rec { return vote(status, at(n, by), fetch(), few()) }
	for _, x := range []struct {
		what string
		l    []api.Report
		want api.Choice
	}{
		{"one of two", of(p, api.Rec{}), took(post(), more())},
		{"behind one of None", of(api.Rec{}, p), took(post(), more())},
		{"a greater number, behind", of(p, f(acc, 2, 1)), took(fetch(), few())},
		{"a greater number, ahead", of(f(acc, 2, 1), p), took(fetch(), few())},
		{"a greater one of the same number", of(p, f(acc, 1, 3)), took(fetch(), few())},
		{"a less one", of(f(acc, 1, 1), p, f(acc, 0, 7)), took(post(), more())},
		{"the same ballot: the first one", of(p, f(acc, 1, 2)), took(post(), more())},
		{"the same ballot: the first replica", []api.Report{from(3, f(acc, 1, 2)), from(1, p)}, took(post(), more())},
		{"pre-accepted below", of(f(pre, 1, 1), p, f(pre, 0, 3)), took(post(), more())},
		{"pre-accepted at the same", of(f(pre, 1, 2), p), took(post(), more())},
		{"pre-accepted above", of(f(pre, 1, 3), p), choice(toAsk, fetch(), api.Attr{})},
		{"pre-accepted above, behind", of(p, p, f(pre, 2, 1)), choice(toAsk, fetch(), api.Attr{})},
		{"pre-accepted above by one that does not count", append(of(p, api.Rec{}), from(1, f(pre, 9, 1)), from(4, f(pre, 9, 1))), took(post(), more())},
		{"None above", of(p, f(none, 9, 1)), took(post(), more())},
		{"first and the same, but one accepted", of(f(pre, 0, 1), f(pre, 0, 1), p), took(post(), more())},
		{"accepted at the first", of(vote(acc, at(0, 1), post(), more()), f(pre, 0, 1)), took(post(), more())},
		{"promised is not voted", of(api.Rec{Status: acc, Promised: at(9, 1), Voted: at(0, 1), C: fetch(), A: few()}, p), took(post(), more())},
		{"promised above for what was pre-accepted", of(api.Rec{Status: pre, Promised: at(9, 1), Voted: at(0, 1), C: fetch(), A: few()}, p), took(post(), more())},
		{"Nop, which fills", of(vote(acc, at(2, 2), api.Cmd{}, waiting(0, 0, 0, 0)), p), took(api.Cmd{}, waiting(0, 0, 0, 0))},
		{"ballots that may not be", of(vote(acc, at(math.MinInt, 9), post(), more()), f(acc, math.MaxInt, -1)), took(fetch(), few())},
		{"ballots below none", of(vote(acc, at(-2, 1), post(), more()), f(acc, -3, 1)), took(post(), more())},
		{"a ballot below none, pre-accepted at none", of(vote(acc, at(-2, 1), post(), more()), f(pre, 0, 0)), choice(toAsk, fetch(), api.Attr{})},
		{"no ballot", of(vote(acc, at(0, 0), post(), more()), f(pre, -1, 7)), took(post(), more())},
		{"no deps", of(vote(acc, at(3, 1), post(), api.Attr{}), p), took(post(), api.Attr{})},
	} {
		check(t, x.what, 3, 1, x.l, x.want)
	}
}

func TestTakeWhatAllAgreeOn(t *testing.T) { // P10.2
	first := vote(pre, at(0, 1), post(), more())
	for n := 1; n <= mostReplica; n++ {
		for told := plainQuorum(n); told <= n; told++ {
			check(t, "all first, and the same", n, 1, of(slices.Repeat([]api.Rec{first}, told)...), choice(toTake, post(), more()))
		}
	}
	check(t, "of another owner", 3, 2, of(first, first), choice(toAsk, post(), api.Attr{}))
	check(t, "one is None", 3, 1, of(first, first, api.Rec{}), choice(toAsk, post(), api.Attr{}))
	check(t, "one that does not count is another one", 3, 1, append(of(first, first), from(1, api.Rec{}), from(4, vote(acc, at(3, 3), fetch(), few()))), choice(toTake, post(), more()))
	check(t, "at no first ballot", 3, 1, of(vote(pre, at(1, 1), post(), more()), vote(pre, at(1, 1), post(), more())), choice(toAsk, post(), api.Attr{}))
	check(t, "one at another ballot", 3, 1, of(first, vote(pre, at(0, 2), post(), more())), choice(toAsk, post(), api.Attr{}))
	check(t, "another command", 3, 1, of(first, first, vote(pre, at(0, 1), fetch(), more())), choice(toAsk, post(), api.Attr{}))
	check(t, "another number", 3, 1, of(first, first, vote(pre, at(0, 1), post(), waiting(5, 0, 1, 0))), choice(toAsk, post(), api.Attr{}))
	check(t, "another dep", 3, 1, of(first, vote(pre, at(0, 1), post(), waiting(4, 0, 1, 1))), choice(toAsk, post(), api.Attr{}))
	check(t, "more is promised", 3, 1, of(first, api.Rec{Status: pre, Promised: at(7, 3), Voted: at(0, 1), C: post(), A: more()}), choice(toTake, post(), more()))
	check(t, "deps of other lengths", 3, 1, []api.Report{from(2, vote(pre, at(0, 1), post(), waiting(4, 0, 1))), from(1, vote(pre, at(0, 1), post(), waiting(4, 0, 1, 0, 0)))}, choice(toTake, post(), waiting(4, 0, 1, 0, 0)))
	for _, owner := range wrong() { // the first ballot of whoever is handed in
		v := vote(pre, at(0, owner), post(), more())
		check(t, "of whoever", 3, owner, of(v, v), choice(toTake, post(), more()))
		if !Fast(3, owner, of(v, v, v)) {
			t.Errorf("of %d", owner)
		}
	}
}

func TestAgain(t *testing.T) { // P10.2
	asks := func(c api.Cmd) api.Choice { return choice(toAsk, c, api.Attr{}) }
	p, f := vote(pre, at(1, 2), post(), more()), func(n, by int) api.Rec { return vote(pre, at(n, by), fetch(), few()) }
	for _, x := range []struct {
		what string
		l    []api.Report
		want api.Choice
	}{
		{"one of two", of(p, api.Rec{}), asks(post())},
		{"behind one of None", of(api.Rec{}, p), asks(post())},
		{"a greater number", of(p, f(2, 1)), asks(fetch())},
		{"a greater number, ahead", of(f(2, 1), p), asks(fetch())},
		{"a greater one of the same number", of(p, f(1, 3), f(0, 7)), asks(fetch())},
		{"a less one", of(f(1, 1), p), asks(post())},
		{"the same ballot: the first one", of(p, f(1, 2)), asks(post())},
		{"the same ballot: the first replica", []api.Report{from(3, f(1, 2)), from(2, p)}, asks(post())},
		{"None above", of(p, vote(none, at(9, 1), fetch(), few())), asks(post())},
		{"one that does not count", append(of(p, api.Rec{}), from(1, f(9, 1)), from(0, f(9, 1)), from(4, f(9, 1))), asks(post())},
		{"promised is not voted", of(api.Rec{Status: pre, Promised: at(9, 1), Voted: at(0, 1), C: fetch(), A: few()}, p), asks(post())},
		{"first, with different attributes", of(vote(pre, at(0, 1), post(), few()), vote(pre, at(0, 1), post(), more())), asks(post())},
		{"above what was accepted", of(vote(acc, at(1, 1), fetch(), few()), p), asks(post())},
		{"of Nop", of(vote(pre, at(2, 1), api.Cmd{}, few()), p), asks(api.Cmd{})},
		{"ballots that may not be", of(vote(pre, at(math.MinInt, 9), post(), more()), f(math.MaxInt, -1)), asks(fetch())},
		{"ballots below none", of(api.Rec{}, vote(pre, at(-2, 1), post(), more()), f(-3, 1)), asks(post())},
	} {
		check(t, x.what, 3, 1, x.l, x.want)
	}
}

func TestFill(t *testing.T) { // P10.2
	for n := 1; n <= mostReplica; n++ {
		for told := plainQuorum(n); told <= n; told++ {
			check(t, "nothing was", n, 1, of(make([]api.Rec, told)...), bare(toFill))
			check(t, "promised alone", n, 1, of(slices.Repeat([]api.Rec{{Promised: at(3, 1)}}, told)...), bare(toFill))
			check(t, "what None tells beside it", n, 1, of(slices.Repeat([]api.Rec{vote(none, at(0, 1), post(), more())}, told)...), bare(toFill))
		}
	}
	for _, status := range []int{-1, 4, 5, 256 + pre, 256 + acc, 256 + com, 1<<32 + pre, math.MinInt, math.MaxInt} { // they count, but tell nothing
		r := vote(status, at(0, 1), post(), more())
		check(t, "no status", 3, 1, of(r, r), bare(toFill))
		check(t, "no status, and Pre", 3, 1, of(r, r, vote(pre, at(0, 1), fetch(), few())), choice(toAsk, fetch(), api.Attr{}))
	}
}

func TestHowManyReplicas(t *testing.T) { // P10.1, P10.2: n counts as one from 1 to 7
	first := vote(pre, at(0, 1), post(), more())
	for _, n := range wrong() {
		as := plainN(n)
		for told := range 10 {
			l := of(slices.Repeat([]api.Rec{first}, told)...)
			if Fast(n, 1, l) != (told >= as) || Fast(n, 1, l) != Fast(as, 1, l) {
				t.Errorf("%d of %d: %v", told, n, Fast(n, 1, l))
			}
			want := choice(toTake, post(), more())
			if told < plainQuorum(as) {
				want = bare(toWait)
			}
			check(t, "first", n, 1, l, want)
		}
		check(t, "the last one", n, 1, []api.Report{from(as, vote(com, at(0, 1), fetch(), few()))}, choice(isDone, fetch(), few()))
		check(t, "behind the last one", n, 1, []api.Report{from(as+1, vote(com, at(0, 1), fetch(), few()))}, bare(toWait))
	}
}

// recs are such that each choice may be, of ballots on both sides of the first one of 1.
func recs() []api.Rec {
	return []api.Rec{{}, vote(pre, at(0, 1), post(), few()), vote(pre, at(0, 1), post(), more()), vote(pre, at(0, 1), fetch(), few()), vote(pre, at(0, 2), post(), few()),
		vote(pre, at(1, 2), fetch(), more()), vote(acc, at(0, 1), fetch(), few()), vote(acc, at(0, 2), post(), more()), vote(acc, at(1, 2), post(), few()), vote(com, at(0, 1), fetch(), more())}
}

func TestAllOfThree(t *testing.T) { // P10.1, P10.2: three reports of whoever, of whatever
	kinds := map[int]int{}
	var all []api.Report
	for by := range 5 {
		for _, r := range recs() {
			all = append(all, from(by, r))
		}
	}
	for _, x := range all {
		for _, y := range all {
			for _, z := range all {
				for n := 1; n <= 4; n++ {
					l := []api.Report{x, y, z}
					want := plainDecide(n, 1, l)
					check(t, "three", n, 1, l, want)
					if Fast(n, 1, l) != plainFast(n, 1, l) {
						t.Fatalf("of %d, %v: %v", n, l, Fast(n, 1, l))
					}
					kinds[want.Kind]++
				}
			}
		}
	}
	if len(kinds) != 5 {
		t.Error("not all were chosen", kinds)
	}
}

// any is a report of anything, right or wrong.
func (d *dice) any() api.Report {
	attrs := []api.Attr{{}, few(), more(), waiting(4, 0, 1), waiting(4, 0, 1, 0, 0, 0, 0, 0, 0), waiting(-1, -1), waiting(math.MaxInt, math.MinInt, math.MaxInt), waiting(0, 1, 2, 3, 4, 5, 6, 7)}
	cmds := []api.Cmd{{}, post(), fetch(), {Kind: -1, N: math.MinInt, Text: "\xff"}}
	ballot := at(d.below(3), 1+d.below(3))
	if d.below(8) == 0 {
		ballot = at(pick(d, wrong()), pick(d, wrong()))
	}
	status := d.below(4)
	if d.below(16) == 0 {
		status = pick(d, wrong())
	}
	if status == com && d.below(4) > 0 { // else all is done
		status = pre
	}
	return from(pick(d, wrong()), api.Rec{Status: status, Promised: at(d.below(3), 1), Voted: ballot, C: pick(d, cmds), A: pick(d, attrs)})
}

func TestAnything(t *testing.T) { // P1, P10.1, P10.2, R5: of anything at all, twice
	d := dice(1)
	kinds := map[int]int{}
	for range 100000 {
		l := make([]api.Report, d.below(12))
		for i := range l {
			l[i] = d.any()
			if i > 0 && d.below(3) > 0 { // often the same of another one, else none would agree
				l[i].R = l[i-1].R
			}
		}
		n, owner := pick(&d, wrong()), 1+d.below(3)
		if d.below(2) == 0 {
			n = 1 + d.below(7)
		}
		if d.below(8) == 0 {
			owner = pick(&d, wrong())
		}
		want := plainDecide(n, owner, l)
		for range 2 {
			check(t, "anything", n, owner, l, want)
			if Fast(n, owner, l) != plainFast(n, owner, l) {
				t.Fatalf("of %d, of owner %d, %v", n, owner, l)
			}
		}
		kinds[want.Kind]++
	}
	if len(kinds) != 5 {
		t.Error("not all were chosen", kinds)
	}
}

// tellers are the reports of those whose bits are set, turned round by one place.
func tellers(set uint, l []api.Rec) []api.Report {
	var out []api.Report
	for i, r := range l {
		if set>>i&1 == 1 {
			out = append(out, from(i+1, r))
		}
	}
	if len(out) > 1 {
		out = append(out[1:], out[0])
	}
	return out
}

func TestWhatAllPreAcceptedIsTaken(t *testing.T) { // P10.3
	for n := 1; n <= mostReplica; n++ {
		for owner := 1; owner <= n; owner++ {
			for set := range uint(1) << n {
				first := vote(pre, at(0, owner), post(), waiting(4, make([]int, n)...))
				l := slices.Repeat([]api.Rec{first}, n)
				l[n-1].Promised, l[0].Promised = at(3, 1), at(2, n) // promises come on top
				want := choice(toTake, first.C, first.A)
				if bits.OnesCount(set) < plainQuorum(n) {
					want = bare(toWait)
				}
				check(t, "all pre-accepted", n, owner, tellers(set, l), want)
			}
		}
	}
}

// lower is a vote, or none, for something else that is not above b, nor accepted at b: whose that ballot is asked for one thing alone to be accepted.
func (d *dice) lower(b api.Ballot, n int) api.Rec {
	less := at(d.below(b.N+1), 1+d.below(n))
	status := d.below(3)
	if less.N == b.N {
		less.By = 1 + d.below(b.By)
	}
	if less == b && status == acc {
		status = pre
	}
	if status == none {
		return api.Rec{Promised: at(b.N+d.below(3), b.By)}
	}
	return vote(status, less, pick(d, []api.Cmd{{}, fetch(), {User: 1, Seq: 1, Kind: 1, Channel: 1}}), waiting(9, make([]int, n)...))
}

func TestWhatAQuorumAcceptedIsTaken(t *testing.T) { // P10.3
	d := dice(3)
	for n := 1; n <= mostReplica; n++ {
		for accepted := range uint(1) << n {
			if bits.OnesCount(accepted) < plainQuorum(n) {
				continue
			}
			b := at(d.below(3), 1+d.below(n))
			want := choice(toTake, post(), waiting(4, make([]int, n)...))
			l := make([]api.Rec, n)
			for i := range l {
				if l[i] = d.lower(b, n); accepted>>i&1 == 1 {
					l[i] = vote(acc, b, want.C, want.A)
					l[i].Promised.N += d.below(3)
				}
			}
			for set := range uint(1) << n {
				if bits.OnesCount(set) >= plainQuorum(n) {
					check(t, "a quorum accepted", n, 1+d.below(n), tellers(set, l), want)
				}
			}
		}
	}
}

func TestQuorumsMeet(t *testing.T) { // P10.3 leans on it
	for n := 1; n <= mostReplica; n++ {
		if q := Quorum(n); 2*q <= n || q > n || 2*(q-1) > n {
			t.Errorf("of %d: %d", n, q)
		}
	}
}

func TestSharesNothing(t *testing.T) { // R3
	for _, r := range []api.Rec{vote(com, at(0, 1), post(), api.Attr{}), vote(acc, at(0, 1), post(), api.Attr{}), vote(pre, at(0, 1), post(), api.Attr{})} {
		room := []int{8, 7, 6, 5}
		r.A = api.Attr{Seq: 9, Deps: room[:3]}
		l := of(r, r)[:2:2]
		l = append(l, from(1, api.Rec{Status: com}))[:2]
		got := Decide(3, 1, l)
		if !slices.Equal(got.A.Deps, []int{8, 7, 6}) {
			t.Errorf("%v", got)
		}
		_ = append(got.A.Deps, 99)
		clear(got.A.Deps)
		if !slices.Equal(room, []int{8, 7, 6, 5}) {
			t.Errorf("%v is of what was answered", room)
		}
		got = Decide(3, 1, l)
		Fast(3, 1, l)
		if !slices.Equal(room, []int{8, 7, 6, 5}) || len(l) != 2 || l[0].From != 1 || l[1].From != 2 || l[0].R.Status != r.Status || l[1].R.C != r.C || l[:3][2].R.Status != com {
			t.Errorf("%v was changed", l)
		}
		clear(room)
		l[0], l[1] = api.Report{}, api.Report{}
		if !slices.Equal(got.A.Deps, []int{8, 7, 6}) || got.C != post() {
			t.Errorf("%v is of what was handed in", got)
		}
	}
}

func TestMany(t *testing.T) { // P1: no list is told here, as it is too long for that
	first := vote(pre, at(0, 1), post(), waiting(1, make([]int, 1<<16)...))
	first.A.Deps[1<<16-1] = 5
	l := slices.Repeat([]api.Report{from(1, first), from(0, api.Rec{Status: com}), from(9, api.Rec{Status: com})}, 1<<16)
	if !equal(Decide(3, 1, l), bare(toWait)) {
		t.Error("one, very often")
	}
	l = append(l, from(2, first), from(2, api.Rec{}))
	if !equal(Decide(3, 1, l), choice(toTake, first.C, first.A)) {
		t.Error("two of three")
	}
	if Fast(3, 1, l) || !Fast(3, 1, append(l, from(3, first))) || !Fast(2, 1, l) {
		t.Error("of many")
	}
}
