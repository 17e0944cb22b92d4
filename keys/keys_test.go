package keys

import (
	"math"
	"slices"
	"strings"
	"testing"

	"colloquy/api"
)

// The limits and kinds are written out here, so that a wrong one of the package is seen.
const (
	mostUser    = 1 << 20
	mostNumber  = 1 << 30
	mostChannel = 1 << 20
)

const (
	nop = iota
	open
	join
	leave
	post
	edit
	remove
	fetch
	kinds
)

// cmd is a command of a kind that may be, if the user and the channel may.
func cmd(kind, user, channel int) api.Cmd {
	c := api.Cmd{User: user, Seq: 300, Kind: kind, Channel: channel}
	if kind == edit || kind == remove || kind == fetch {
		c.N = 9
	}
	if kind == post || kind == edit {
		c.Text = "hi"
	}
	return c
}

// samples are commands that may be, of all kinds but Nop, of few users and channels, whose numbers are often the same.
func samples() []api.Cmd {
	var l []api.Cmd
	for kind := open; kind < kinds; kind++ {
		for _, user := range []int{1, 2, 3, mostUser} {
			for _, channel := range []int{1, 2, 3, mostChannel} {
				l = append(l, cmd(kind, user, channel))
			}
		}
	}
	return l
}

// others are commands that may not be, each by one thing that is another one than it may be.
func others() []api.Cmd {
	var l []api.Cmd
	for _, kind := range []int{-1, kinds, kinds + 1, 128, math.MinInt, math.MaxInt} {
		l = append(l, api.Cmd{Kind: kind}, cmd(kind, 1, 1))
	}
	for kind := open; kind < kinds; kind++ {
		for _, n := range []int{-1, 0, math.MinInt, math.MaxInt} {
			l = append(l, cmd(kind, n, 1), cmd(kind, 1, n))
			c := cmd(kind, 1, 1)
			c.Seq = n
			l = append(l, c)
		}
		l = append(l, cmd(kind, mostUser+1, 1), cmd(kind, 1, mostChannel+1))
		c, d, e, f := cmd(kind, 1, 1), cmd(kind, 1, 1), cmd(kind, 1, 1), cmd(kind, 1, 1)
		c.Seq, d.N, e.Text = mostNumber+1, mostNumber+1, strings.Repeat("x", 65)
		if f.N == 0 {
			f.N = 1
		} else {
			f.N = 0
		}
		l = append(l, c, d, e, f)
	}
	return append(l, api.Cmd{User: 1}, api.Cmd{Seq: 1}, api.Cmd{Channel: 1}, api.Cmd{N: 1}, api.Cmd{Text: "x"}, cmd(nop, 1, 1))
}

// interfere is what the chapter's words say of two commands that may be, without their keys.
func interfere(a, b api.Cmd) bool {
	return a.User == b.User || a.Channel == b.Channel && (a.Kind != fetch || b.Kind != fetch)
}

// check holds that two commands interfere or not, whoever is asked first, and in whatever list the other one is.
func check(t *testing.T, a, b api.Cmd, want bool) {
	t.Helper()
	if Interfere(a, b) != want || Interfere(b, a) != want {
		t.Errorf("%#v and %#v: %v %v, want %v", a, b, Interfere(a, b), Interfere(b, a), want)
	}
	for _, l := range [][]api.Cmd{{b}, {{}, b}, {b, {}}, {{}, {Kind: -1}, b, {Kind: kinds}}} {
		if Any(a, l) != want {
			t.Errorf("%#v and some of %#v: %v", a, l, !want)
		}
	}
}

func TestOf(t *testing.T) { // P5.1
	for _, c := range samples() {
		want := []Key{{true, c.User, true}, {false, c.Channel, c.Kind != fetch}}
		if k := Of(c); !slices.Equal(k, want) {
			t.Errorf("%#v: %v, want %v", c, k, want)
		}
	}
}

func TestOfNone(t *testing.T) { // P5.1: of Nop, and of what may not be
	for _, c := range append(others(), api.Cmd{}) {
		if k := Of(c); len(k) != 0 {
			t.Errorf("kind %d, %d %d %d %d, %d bytes: %v", c.Kind, c.User, c.Seq, c.Channel, c.N, len(c.Text), k)
		}
	}
}

func TestMeet(t *testing.T) { // P5.2: any keys, also those that no command has
	var l []Key
	for _, id := range []int{math.MinInt, -1, 0, 1, 2, mostUser, mostUser + 1, math.MaxInt} {
		l = append(l, Key{ID: id}, Key{ID: id, Changes: true}, Key{User: true, ID: id}, Key{User: true, ID: id, Changes: true})
	}
	for i, a := range l {
		for j, b := range l {
			want := i/2 == j/2 && (i%2 == 1 || j%2 == 1)
			if Meet(a, b) != want {
				t.Errorf("%v and %v: %v", a, b, !want)
			}
		}
	}
}

func TestInterfereExamples(t *testing.T) { // P5.2
	for _, x := range []struct {
		a, b api.Cmd
		want bool
	}{
		{cmd(fetch, 1, 3), cmd(fetch, 2, 3), false},
		{cmd(fetch, 1, 3), cmd(post, 2, 3), true},
		{cmd(fetch, 1, 3), cmd(fetch, 1, 4), true},
		{cmd(fetch, 1, 3), cmd(fetch, 1, 3), true},
		{cmd(post, 1, 3), cmd(post, 2, 3), true},
		{cmd(post, 1, 3), cmd(post, 1, 4), true},
		{cmd(post, 1, 3), cmd(post, 2, 4), false},
		{cmd(post, 3, 4), cmd(post, 4, 3), false}, // a user is no channel of that number
		{cmd(open, 5, 5), cmd(open, 6, 6), false},
		{cmd(open, mostUser, 1), cmd(leave, mostUser, mostChannel), true},
		{cmd(join, 1, mostChannel), cmd(remove, mostUser, mostChannel), true},
		{cmd(post, 1, 3), api.Cmd{}, false},
		{api.Cmd{}, api.Cmd{}, false},
	} {
		check(t, x.a, x.b, x.want)
	}
}

func TestInterfere(t *testing.T) { // P5.2, P5.3: both ways
	l := samples()
	for _, a := range l {
		for _, b := range l {
			check(t, a, b, interfere(a, b))
		}
	}
}

func TestInterfereHangsOnKeysAlone(t *testing.T) { // P5.2: no other number, and no text, plays a part
	for _, a := range samples() {
		for _, b := range []api.Cmd{cmd(edit, 1, 2), cmd(fetch, 2, 1)} {
			want := interfere(a, b)
			b.Seq, b.N = a.Seq+1, b.N+1
			check(t, a, b, want)
			b.Seq, b.N = mostNumber, mostNumber
			if b.Kind == edit {
				b.Text = strings.Repeat("x", 64)
			}
			check(t, a, b, want)
		}
	}
}

func TestInterfereWithItself(t *testing.T) { // P5.3
	for _, c := range samples() {
		check(t, c, c, true)
	}
	check(t, api.Cmd{}, api.Cmd{}, false)
}

func TestWhatMayNotBeInterferesWithNothing(t *testing.T) { // P5.1, P5.2: it has no keys
	for _, c := range append(others(), api.Cmd{}) {
		check(t, c, c, false)
		check(t, c, api.Cmd{}, false)
		for kind := open; kind < kinds; kind++ {
			check(t, c, cmd(kind, 1, 1), false)
		}
	}
}

func TestStrangersDoNotInterfere(t *testing.T) { // P5.3: different users, and different channels or both read
	l := samples()
	for _, a := range l {
		for _, b := range l {
			apart := a.Channel != b.Channel || a.Kind == fetch && b.Kind == fetch
			if a.User != b.User && apart {
				check(t, a, b, false)
			}
		}
	}
}

func TestAny(t *testing.T) { // P5.2
	c := cmd(fetch, 1, 3)
	strangers := []api.Cmd{cmd(fetch, 2, 3), cmd(post, 2, 1), {}, cmd(post, 3, 4), {Kind: post, User: 1, Channel: 3}}
	for _, l := range [][]api.Cmd{nil, {}, {{}}, strangers} {
		if Any(c, l) || Any(api.Cmd{}, l) {
			t.Errorf("one of %v", l)
		}
	}
	for i := range len(strangers) + 1 {
		l := slices.Insert(slices.Clone(strangers), i, cmd(join, 2, 3))
		if !Any(c, l) {
			t.Errorf("the one at %d is passed over", i)
		}
		if Any(api.Cmd{}, l) {
			t.Error("Nop interferes with none")
		}
	}
	if !Any(c, []api.Cmd{cmd(post, 2, 3), cmd(post, 1, 4), c}) {
		t.Error("more than one")
	}
}

func TestAnyIsSomeThatInterferes(t *testing.T) { // P5.2: of every piece of a list
	all := append(others(), samples()...)
	for size := range 4 {
		for i := range len(all) - size {
			l := all[i : i+size]
			for _, c := range []api.Cmd{all[i], cmd(fetch, 1, 1), cmd(post, 2, 3), cmd(leave, mostUser, 9), {}, {Kind: -1}} {
				want := false
				for _, x := range l {
					want = want || Interfere(c, x)
				}
				if Any(c, l) != want {
					t.Errorf("%#v and some of %#v: %v", c, l, !want)
				}
			}
		}
	}
}

func TestSharesNothing(t *testing.T) { // R3
	c := cmd(edit, 7, 3)
	k := Of(c)
	_ = append(k[:1], Key{ID: 9})
	clear(k)
	if !slices.Equal(Of(c), []Key{{true, 7, true}, {false, 3, true}}) {
		t.Error("keys hang on those that were answered before")
	}
	l := samples()
	Any(c, l)
	if !slices.Equal(l, samples()) {
		t.Error("the list was changed")
	}
}
