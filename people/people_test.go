package people

import (
	"math"
	"slices"
	"testing"

	"colloquy/api"
)

// The limits are written out here, so that a wrong one of the package is seen.
const (
	mostUser    = 1 << 20
	mostChannel = 1 << 20
	mostMembers = 16
)

func channel(id, owner int, members ...int) api.Channel {
	return api.Channel{ID: id, Owner: owner, Members: members}
}

// steps are so many users that rise: first, first + step, first + step + step ..
func steps(first, step, size int) []int {
	l := make([]int, size)
	for i := range l {
		l[i] = first + step*i
	}
	return l
}

// good are channels that may be: of 1 to 16 members, each of them the owner once, users and IDs at both ends.
func good() []api.Channel {
	l := []api.Channel{
		channel(1, 1, 1), channel(mostChannel, mostUser, mostUser), channel(3, 7, 5, 7), channel(3, 5, 5, 7),
		channel(9, 1, 1, mostUser), channel(9, mostUser, 1, mostUser), channel(mostChannel, mostUser, mostUser-1, mostUser),
	}
	for size := 1; size <= mostMembers; size++ {
		for _, members := range [][]int{steps(1, 1, size), steps(2, 2, size), steps(mostUser-size+1, 1, size), steps(5, 60000, size)} {
			for _, owner := range members {
				l = append(l, channel(size, owner, members...))
			}
		}
	}
	return l
}

// wrong are channels that may not be, by each of the reasons, the more often by one alone.
func wrong() []api.Channel {
	l := []api.Channel{
		{}, channel(3, 7), {ID: 3, Owner: 7, Members: []int{}}, channel(3, 0), channel(3, 0, 0),
		channel(0, 7, 7), channel(-1, 7, 7), channel(mostChannel+1, 7, 7), channel(math.MinInt, 7, 7), channel(math.MaxInt, 7, 7),
		channel(3, 0, 7), channel(3, 5, 7), channel(3, 8, 7), channel(3, -7, 7), channel(3, math.MinInt, 7), channel(3, math.MaxInt, 7),
		channel(3, 6, 5, 7), channel(3, 4, 5, 7), channel(3, 8, 5, 7), channel(3, 0, 5, 7), channel(3, mostUser+1, 5, 7),
		channel(3, 7, 7, 5), channel(3, 5, 7, 5), channel(3, 7, 7, 7), channel(3, 7, 5, 5, 7), channel(3, 5, 5, 7, 7), channel(3, 5, 5, 5, 7),
		channel(3, 2, 1, 2, 3, 3), channel(3, 2, 1, 3, 2), channel(3, 1, 1, 3, 2), channel(3, 3, 1, 2, 3, 1), channel(3, 1, 3, 2, 1),
		channel(3, 7, 0, 7), channel(3, 7, -1, 7), channel(3, 7, math.MinInt, 7), channel(3, 7, 7, mostUser+1), channel(3, 7, 7, math.MaxInt),
		channel(3, 0, 0, 7), channel(3, -1, -1, 7), channel(3, mostUser+1, 7, mostUser+1), channel(3, mostUser+1, mostUser+1),
		channel(3, -1, -1), channel(3, math.MinInt, math.MinInt), channel(3, math.MaxInt, math.MaxInt),
		channel(math.MinInt, math.MinInt, math.MinInt, math.MaxInt), channel(mostChannel+1, mostUser+1, mostUser+1, 0),
	}
	for size := mostMembers + 1; size < mostMembers+4; size++ {
		l = append(l, channel(3, 1, steps(1, 1, size)...), channel(3, size, steps(1, 1, size)...))
	}
	for i := 1; i < mostMembers; i++ { // two neighbours the same, and the wrong way about
		same, turned := steps(1, 2, mostMembers), steps(1, 2, mostMembers)
		same[i] = same[i-1]
		turned[i], turned[i-1] = turned[i-1], turned[i]
		l = append(l, channel(3, same[i-1], same...), channel(3, turned[0], turned...), channel(3, turned[mostMembers-1], turned...))
	}
	return append(l, channel(3, 1, steps(1, 1, 1000)...), channel(3, 1, make([]int, 1000)...))
}

// users are those at the edges, those about the members of a channel, and numbers that are none.
func users(c api.Channel) []int {
	l := []int{1, 2, 5, 7, 9, 20, 524288, mostUser - 1, mostUser, 0, -1, mostUser + 1, math.MinInt, math.MaxInt, c.Owner}
	if len(c.Members) > 2*mostMembers {
		return l
	}
	for _, m := range c.Members {
		l = append(l, m-1, m, m+1)
	}
	return l
}

func plainUser(n int) bool {
	return 1 <= n && n <= mostUser
}

// times is how often a user stands in a list: all of it is looked at.
func times(members []int, user int) int {
	n := 0
	for _, m := range members {
		if m == user {
			n++
		}
	}
	return n
}

// plainMay asks of each two members, and of all others.
func plainMay(c api.Channel) bool {
	if c.ID < 1 || c.ID > mostChannel || len(c.Members) < 1 || len(c.Members) > mostMembers {
		return false
	}
	for i, a := range c.Members {
		if !plainUser(a) {
			return false
		}
		for _, b := range c.Members[i+1:] {
			if a >= b {
				return false
			}
		}
	}
	return times(c.Members, c.Owner) == 1
}

// plainJoin puts the user at the end and sorts.
func plainJoin(c api.Channel, user int) (api.Channel, api.Errno) {
	switch {
	case !plainMay(c) || !plainUser(user):
		return api.Channel{}, 1
	case times(c.Members, user) > 0:
		return api.Channel{}, 6
	case len(c.Members) >= mostMembers:
		return api.Channel{}, 7
	}
	members := append([]int{user}, c.Members...)
	slices.Sort(members)
	return channel(c.ID, c.Owner, members...), 0
}

// plainLeave takes over all others.
func plainLeave(c api.Channel, user int) (api.Channel, api.Errno) {
	switch {
	case !plainMay(c):
		return api.Channel{}, 1
	case times(c.Members, user) == 0:
		return api.Channel{}, 5
	case c.Owner == user:
		return api.Channel{}, 8
	}
	var members []int
	for _, m := range c.Members {
		if m != user {
			members = append(members, m)
		}
	}
	return channel(c.ID, c.Owner, members...), 0
}

func equal(a, b api.Channel) bool {
	return a.ID == b.ID && a.Owner == b.Owner && slices.Equal(a.Members, b.Members)
}

func TestExamples(t *testing.T) { // P15.1, P15.2
	a, e := Open(3, 7)
	if !equal(a, channel(3, 7, 7)) || e != api.OK {
		t.Error("open:", a, e)
	}
	b, e := Join(a, 5)
	if !equal(b, channel(3, 7, 5, 7)) || e != api.OK {
		t.Error("join:", b, e)
	}
	if c, e := Leave(b, 7); !equal(c, api.Channel{}) || e != api.ErrDeny {
		t.Error("leave by the owner:", c, e)
	}
	if c, e := Leave(b, 5); !equal(c, channel(3, 7, 7)) || e != api.OK {
		t.Error("leave:", c, e)
	}
}

func TestMay(t *testing.T) { // P15.1
	for _, c := range good() {
		if !May(c) || !plainMay(c) {
			t.Error(c)
		}
	}
}

func TestMayNot(t *testing.T) { // P15.1
	for _, c := range wrong() {
		if May(c) || plainMay(c) {
			t.Error(c)
		}
	}
}

func TestMayOfEveryShortList(t *testing.T) { // P15.1: of up to four numbers from 0 to 5
	lists := [][]int{nil}
	for at := 0; at < len(lists); at++ {
		l := lists[at]
		for owner := range 6 {
			if c := channel(3, owner, l...); May(c) != plainMay(c) {
				t.Error(c)
			}
		}
		for n := range 6 {
			if len(l) < 4 {
				lists = append(lists, append(slices.Clone(l), n))
			}
		}
	}
}

func TestIn(t *testing.T) { // P15.1
	for _, c := range good() {
		for _, user := range users(c) {
			if is := In(c, user); is != (times(c.Members, user) == 1) {
				t.Error(c, user, is)
			}
		}
	}
}

func TestInNot(t *testing.T) { // P15.1: nobody is in a channel that may not be
	for _, c := range wrong() {
		for _, user := range users(c) {
			if In(c, user) {
				t.Error(c, user)
			}
		}
	}
}

func TestOpen(t *testing.T) { // P15.1
	edges := []int{math.MinInt, -1, 0, 1, 2, 300, 1<<20 - 1, 1 << 20, 1<<20 + 1, 1 << 30, 1 << 40, math.MaxInt}
	for _, id := range edges {
		for _, user := range edges {
			want, wantError := api.Channel{}, api.ErrArg
			if id >= 1 && id <= mostChannel && plainUser(user) {
				want, wantError = channel(id, user, user), api.OK
			}
			c, e := Open(id, user)
			if !equal(c, want) || e != wantError {
				t.Error(id, user, c, e)
			}
			if e == api.OK && (!May(c) || !In(c, user)) {
				t.Error(c, "may not be")
			}
		}
	}
}

func TestJoin(t *testing.T) { // P15.2, and P15.3: the owner stays in it
	for _, c := range append(good(), wrong()...) {
		for _, user := range users(c) {
			got, e := Join(c, user)
			want, wantError := plainJoin(c, user)
			if !equal(got, want) || e != wantError {
				t.Errorf("%v with %d: %v %d, want %v %d", c, user, got, e, want, wantError)
			}
			if e == api.OK && (!May(got) || !In(got, user) || !In(got, c.Owner)) {
				t.Error(got, "may not be")
			}
		}
	}
}

func TestLeave(t *testing.T) { // P15.2, and P15.3: the owner stays in it
	for _, c := range append(good(), wrong()...) {
		for _, user := range users(c) {
			got, e := Leave(c, user)
			want, wantError := plainLeave(c, user)
			if !equal(got, want) || e != wantError {
				t.Errorf("%v without %d: %v %d, want %v %d", c, user, got, e, want, wantError)
			}
			if e == api.OK && (!May(got) || In(got, user) || !In(got, c.Owner)) {
				t.Error(got, "may not be")
			}
		}
	}
}

func TestWhichErrorGoesAhead(t *testing.T) { // P15.2, P1
	full := channel(3, 1, steps(1, 1, mostMembers)...)
	over := channel(3, 1, steps(1, 1, mostMembers+1)...)
	for i, x := range []struct {
		c    api.Channel
		user int
		join api.Errno
		gone api.Errno
	}{
		{full, 0, api.ErrArg, api.ErrNone}, // no user, and no room
		{full, mostUser + 1, api.ErrArg, api.ErrNone},
		{full, 2, api.ErrThere, api.OK}, // in it, and no room
		{full, 1, api.ErrThere, api.ErrDeny},
		{full, 17, api.ErrFull, api.ErrNone},
		{full, mostUser, api.ErrFull, api.ErrNone},
		{over, 2, api.ErrArg, api.ErrArg}, // in it, which may not be
		{over, 1, api.ErrArg, api.ErrArg},
		{over, 30, api.ErrArg, api.ErrArg},
		{channel(0, 7, 7), 7, api.ErrArg, api.ErrArg},
		{channel(3, 5, 7), 5, api.ErrArg, api.ErrArg}, // an owner who is not in it
		{channel(3, 7, 7), 7, api.ErrThere, api.ErrDeny},
		{channel(3, 7, 7), 0, api.ErrArg, api.ErrNone},
		{channel(3, 7, 7), 8, api.OK, api.ErrNone},
	} {
		if _, e := Join(x.c, x.user); e != x.join {
			t.Error(i, "join:", e)
		}
		if _, e := Leave(x.c, x.user); e != x.gone {
			t.Error(i, "leave:", e)
		}
	}
}

func TestNoughtsBesideErrors(t *testing.T) { // P1
	for _, c := range append(good(), wrong()...) {
		for _, user := range users(c) {
			for _, f := range []func(api.Channel, int) (api.Channel, api.Errno){Join, Leave} {
				if got, e := f(c, user); e != api.OK && (got.ID != 0 || got.Owner != 0 || len(got.Members) != 0) {
					t.Error(c, user, got, e)
				}
			}
		}
	}
}

// TestLongWalk: who joins and leaves in turn, held against a set of users that is sorted.
func TestLongWalk(t *testing.T) { // P15.2, P15.3
	c, _ := Open(mostChannel, 12)
	in := map[int]bool{12: true}
	x := uint64(1)
	most := 0
	for step := range 20000 {
		x = x*6364136223846793005 + 1442695040888963407
		user := int(x>>33) % 30 // with 0, which is no user
		if x>>63 == 0 || step%1000 < 60 {
			got, e := Join(c, user)
			switch {
			case user == 0 && e == api.ErrArg, in[user] && e == api.ErrThere, user != 0 && !in[user] && len(in) == mostMembers && e == api.ErrFull:
			case user != 0 && !in[user] && len(in) < mostMembers && e == api.OK:
				c, in[user] = got, true
			default:
				t.Fatal(step, c, user, e)
			}
		} else {
			got, e := Leave(c, user)
			switch {
			case !in[user] && e == api.ErrNone, user == 12 && e == api.ErrDeny:
			case in[user] && user != 12 && e == api.OK:
				c = got
				delete(in, user)
			default:
				t.Fatal(step, c, user, e)
			}
		}
		var want []int
		for user := range in {
			want = append(want, user)
		}
		slices.Sort(want)
		if !equal(c, channel(mostChannel, 12, want...)) || !May(c) || !In(c, 12) {
			t.Fatal(step, c, want)
		}
		most = max(most, len(in))
	}
	if most != mostMembers {
		t.Error("it was never full:", most)
	}
}

func TestThereAndBack(t *testing.T) { // P15.2: who joins and leaves at once leaves the channel as it was
	for _, c := range good() {
		for _, user := range users(c) {
			if more, e := Join(c, user); e == api.OK {
				if back, e := Leave(more, user); e != api.OK || !equal(back, c) {
					t.Error(c, user, back, e)
				}
			}
			if less, e := Leave(c, user); e == api.OK {
				if back, e := Join(less, user); e != api.OK || !equal(back, c) {
					t.Error(c, user, back, e)
				}
			}
		}
	}
}

// roomy is a channel whose members are the first of a longer list, so that what is written behind them is seen.
func roomy(c api.Channel) (api.Channel, []int) {
	all := make([]int, len(c.Members)+20)
	for i := range all {
		all[i] = -100 - i
	}
	copy(all, c.Members)
	c.Members = all[:len(c.Members)]
	return c, all
}

func TestWhatIsHandedInStays(t *testing.T) { // P15.3, R3
	for _, c := range append(good(), wrong()...) {
		for _, user := range users(c) {
			given, all := roomy(c)
			before := slices.Clone(all)
			May(given)
			In(given, user)
			Join(given, user)
			Leave(given, user)
			if !equal(given, c) || !slices.Equal(all, before) {
				t.Fatal(c, user, "became", all)
			}
		}
	}
}

func TestAnswersAreTheCallers(t *testing.T) { // P15.3, R3: a change of either changes nothing of the other
	for _, c := range good() {
		for _, user := range users(c) {
			for _, f := range []func(api.Channel, int) (api.Channel, api.Errno){Join, Leave} {
				given, all := roomy(c)
				got, e := f(given, user)
				if e != api.OK {
					continue
				}
				want := slices.Clone(got.Members)
				for i := range all {
					all[i] = -1
				}
				if !slices.Equal(got.Members, want) {
					t.Fatal(c, user, "answer changed with the argument")
				}
				copy(all, c.Members)
				whole := got.Members[:cap(got.Members)]
				for i := range whole {
					whole[i] = -2
				}
				if !slices.Equal(all[:len(c.Members)], c.Members) || slices.Contains(all, -2) {
					t.Fatal(c, user, "argument changed with the answer")
				}
			}
		}
	}
}

func TestSameAnswersAgain(t *testing.T) { // R5
	a, _ := Open(3, 7)
	a.Members[0] = 9
	if b, e := Open(3, 7); e != api.OK || !equal(b, channel(3, 7, 7)) {
		t.Error("open hangs on what was done with another answer:", b, e)
	}
	for _, c := range good() {
		for _, user := range users(c) {
			once, e := Join(c, user)
			Leave(c, c.Owner)
			Join(c, 1)
			again, f := Join(c, user)
			if !equal(once, again) || e != f {
				t.Fatal(c, user, once, again, e, f)
			}
			once, e = Leave(c, user)
			Join(c, user)
			again, f = Leave(c, user)
			if !equal(once, again) || e != f {
				t.Fatal(c, user, once, again, e, f)
			}
		}
	}
}
