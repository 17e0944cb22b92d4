package posts

import (
	"math"
	"slices"
	"strings"
	"testing"
	"unicode/utf8"

	"colloquy/api"
)

// The limits are written out here, so that a wrong one of the package is seen.
const (
	mostUser   = 1 << 20
	mostNumber = 1 << 30
	mostPosts  = 32
	mostText   = 64
)

func post(no, user int, text string) api.Entry {
	return api.Entry{No: no, User: user, Text: text}
}

func gone(no, user int) api.Entry {
	return api.Entry{No: no, User: user, Gone: true}
}

func edited(p api.Entry, edits int) api.Entry {
	p.Edits = edits
	return p
}

// row are so many posts from a number on, of users 1 to 3 in turn, edited differently often. Every third one is gone, if that is asked for.
func row(first, size int, some bool) []api.Entry {
	l := make([]api.Entry, size)
	for i := range l {
		l[i] = edited(post(first+i, i%3+1, strings.Repeat("x", i+1)), i%5)
		if some && i%3 == 1 {
			l[i] = edited(gone(first+i, i%3+1), i%5)
		}
	}
	return l
}

// allGone are so many posts from a number on, none of which is there any more.
func allGone(first, size int) []api.Entry {
	l := make([]api.Entry, size)
	for i := range l {
		l[i] = gone(first+i, i%3+1)
	}
	return l
}

// good are posts that may be: of 0 to 32, from several numbers on up to the greatest one, of numbers at both ends.
func good() [][]api.Entry {
	l := [][]api.Entry{
		nil, {}, {post(1, 1, "x")}, {post(mostNumber, mostUser, "x")}, {gone(1, 1)}, {gone(mostNumber, mostUser)},
		{edited(post(1, 7, "x"), 1)}, {edited(post(1, 7, "x"), mostNumber)}, {edited(post(1, 7, "x"), mostNumber-1)},
		{edited(gone(1, 7), 1)}, {edited(gone(1, 7), mostNumber)}, {post(1<<20, 1<<20, "x")}, {post(1<<20+1, 1<<20, "x")},
		{post(1, 7, strings.Repeat("x", mostText))}, {post(1, 7, strings.Repeat("\u20ac", 21)+"x")}, {post(1, 7, " ")}, {post(1, 7, "\ufffd")},
		{gone(4, 7), post(5, 7, "x")}, {post(4, 7, "x"), gone(5, 7)}, {gone(4, 7), gone(5, 8), post(6, 9, "x"), gone(7, 7)},
		{post(1, 7, "a"), edited(post(2, 5, "b"), mostNumber), edited(post(3, 7, "c"), mostNumber-1), gone(4, 5)},
	}
	for size := 1; size <= mostPosts; size++ {
		last := mostNumber - size + 1
		l = append(l, row(1, size, false), row(1, size, true), row(1000, size, true), row(last, size, false), row(last-1, size, true), row(last, size, true), allGone(3, size))
	}
	return l
}

// wrongPosts are posts that may not be, by one reason each.
func wrongPosts() []api.Entry {
	l := []api.Entry{
		{}, {No: 1, User: 1}, {No: 1, User: 1, Text: "x", Gone: true}, {No: 1, User: 1, Text: "\n", Gone: true}, {No: 1, User: 1, Text: strings.Repeat("x", mostText+1), Gone: true},
		post(1, 1, strings.Repeat("x", mostText+1)), post(1, 1, strings.Repeat("x", 1000)), post(1, 1, "\n"), post(1, 1, "a\x1fb"), post(1, 1, "\x7f"), post(1, 1, "\x00"), post(1, 1, "\xff"), post(1, 1, "\xed\xa0\x80"), post(1, 1, "\xc0\x80"),
	}
	for _, n := range []int{math.MinInt, -mostNumber, -1, 0, mostNumber + 1, 1 << 31, 1 << 56, math.MaxInt} {
		l = append(l, post(n, 1, "x"), gone(n, 1), post(1, n, "x"), gone(1, n))
		if n != 0 {
			l = append(l, edited(post(1, 1, "x"), n), edited(gone(1, 1), n))
		}
	}
	return append(l, post(1, mostUser+1, "x"), post(1, 1<<30, "x"), gone(1, mostUser+1), gone(1, 1<<30))
}

// wrong are lists that may not be: of one post that may not be, alone or among others, of too many, of numbers that do not follow one another.
func wrong() [][]api.Entry {
	l := [][]api.Entry{
		row(1, mostPosts+1, false), row(1, mostPosts+1, true), row(mostNumber-mostPosts, mostPosts+1, false), row(1, 1000, false), make([]api.Entry, 1000), make([]api.Entry, mostPosts), allGone(1, mostPosts+1),
		row(0, 5, false), row(-3, 5, false), row(mostNumber-3, 5, false), row(mostNumber, 2, true), row(math.MaxInt-1, 2, false), row(math.MaxInt, 2, false), {post(mostNumber, 1, "x"), post(1, 1, "x")},
		{post(1, 1, "x"), post(1, 1, "x")}, {post(2, 1, "x"), post(1, 1, "x")}, {post(1, 1, "x"), post(3, 1, "x")}, {gone(1, 1), gone(3, 1)}, {gone(1, 1), gone(1, 1)}, {post(5, 1, "x"), gone(4, 1), post(5, 1, "x")},
		{post(1, 1, "x"), post(math.MinInt, 1, "x")}, {post(math.MaxInt, 1, "x"), post(math.MinInt, 1, "x")},
	}
	for _, p := range wrongPosts() {
		l = append(l, []api.Entry{p})
	}
	for _, size := range []int{2, 3, mostPosts} {
		for at := range size {
			for _, p := range wrongPosts() {
				one := row(9, size, false)
				if p.No == 1 { // it is wrong for another reason
					p.No = 9 + at
				}
				one[at] = p
				l = append(l, one)
			}
			less, more := row(9, size, true), row(9, size, true)
			less[at].No--
			more[at].No++
			l = append(l, less, more)
			if at > 0 && at < size-1 {
				l = append(l, slices.Delete(row(9, size, false), at, at+1))
			}
		}
	}
	return l
}

func plainText(s string) bool {
	for i := range len(s) {
		if s[i] < 32 || s[i] == 127 {
			return false
		}
	}
	return s != "" && len(s) <= mostText && utf8.ValidString(s)
}

func plainUser(n int) bool {
	return 1 <= n && n <= mostUser
}

// plainMay counts the numbers on from the first one.
func plainMay(l []api.Entry) bool {
	for i, p := range l {
		if p.No < 1 || p.No > mostNumber || p.No != l[0].No+i || !plainUser(p.User) || p.Edits < 0 || p.Edits > mostNumber {
			return false
		}
		if p.Gone && p.Text != "" || !p.Gone && !plainText(p.Text) {
			return false
		}
	}
	return len(l) <= mostPosts
}

// plain is a copy, or none, if the posts may not be.
func plain(l []api.Entry) []api.Entry {
	var all []api.Entry
	if plainMay(l) {
		for _, p := range l {
			all = append(all, p)
		}
	}
	return all
}

func plainLast(l []api.Entry) int {
	last := 0
	for _, p := range plain(l) {
		last = max(last, p.No)
	}
	return last
}

// place is where a post stands that is there, or -1.
func place(l []api.Entry, no int) int {
	for i, p := range plain(l) {
		if p.No == no && !p.Gone {
			return i
		}
	}
	return -1
}

func plainFind(l []api.Entry, no int) (api.Entry, api.Errno) {
	if i := place(l, no); i >= 0 {
		return l[i], 0
	}
	return api.Entry{}, 5
}

func plainAdd(l []api.Entry, user int, text string) ([]api.Entry, api.Errno) {
	if !plainUser(user) || !plainText(text) {
		return nil, 1
	}
	if plainLast(l) == mostNumber {
		return nil, 7
	}
	all := append(plain(l), post(plainLast(l)+1, user, text))
	for len(all) > mostPosts {
		all = all[1:]
	}
	return all, 0
}

func plainEdit(l []api.Entry, no, user int, text string) ([]api.Entry, api.Errno) {
	i, all := place(l, no), plain(l)
	switch {
	case !plainText(text):
		return nil, 1
	case i < 0:
		return nil, 5
	case all[i].User != user:
		return nil, 8
	case all[i].Edits == mostNumber:
		return nil, 7
	}
	all[i] = api.Entry{No: no, User: user, Text: text, Edits: all[i].Edits + 1}
	return all, 0
}

func plainDelete(l []api.Entry, no, user, owner int) ([]api.Entry, api.Errno) {
	i, all := place(l, no), plain(l)
	switch {
	case i < 0:
		return nil, 5
	case user == all[i].User, user == owner:
		all[i] = api.Entry{No: no, User: all[i].User, Edits: all[i].Edits, Gone: true}
		return all, 0
	}
	return nil, 8
}

// plainPage is cut from all that are there.
func plainPage(l []api.Entry, from, many int) ([]api.Entry, int) {
	var live []api.Entry
	for _, p := range plain(l) {
		if !p.Gone && p.No >= from {
			live = append(live, p)
		}
	}
	many = max(many, 0)
	if many >= len(live) {
		return live, 0
	}
	return live[:many], live[many].No
}

// numbers are those at the edges, and those about a list.
func numbers(l []api.Entry) []int {
	ns := []int{math.MinInt, -mostNumber, -1, 0, 1, 2, 1 << 20, mostNumber - 1, mostNumber, mostNumber + 1, 1 << 56, math.MaxInt}
	for i, p := range l {
		if i < 2 || i > len(l)-3 || i%10 == 0 {
			ns = append(ns, p.No-1, p.No, p.No+1)
		}
	}
	return ns
}

// users are those at the edges, those of some posts, and numbers that are none.
func users(l []api.Entry) []int {
	us := []int{math.MinInt, -1, 0, 1, 2, 3, 7, mostUser - 1, mostUser, mostUser + 1, mostNumber, mostNumber + 1, math.MaxInt}
	if len(l) > 0 {
		us = append(us, l[0].User, l[len(l)-1].User)
	}
	return us
}

func texts() []string {
	return []string{"", "x", "hello you", "\u20ac", strings.Repeat("y", mostText), strings.Repeat("y", mostText+1), "\n", "a\x7f", "\xff", "\xed\xa0\x80"}
}

// lists are some of good and all of wrong, shortened where each is asked of many arguments.
func lists() [][]api.Entry {
	var some [][]api.Entry
	for i, l := range good() {
		if n := len(l); n <= 2 || n == 4 || n == mostPosts || i%17 == 0 {
			some = append(some, l)
		}
	}
	for i, l := range wrong() {
		if len(l) == 1 || i%70 == 0 {
			some = append(some, l)
		}
	}
	return some
}

func TestExamples(t *testing.T) { // P16.2, P16.3, P16.4
	a, e := Add(nil, 7, "a")
	if !slices.Equal(a, []api.Entry{{No: 1, User: 7, Text: "a"}}) || e != api.OK {
		t.Error("add:", a, e)
	}
	b, e := Add(a, 5, "b")
	if !slices.Equal(b, []api.Entry{{No: 1, User: 7, Text: "a"}, {No: 2, User: 5, Text: "b"}}) || e != api.OK {
		t.Error("add:", b, e)
	}
	c, e := Delete(b, 1, 7, 9)
	if !slices.Equal(c, []api.Entry{{No: 1, User: 7, Gone: true}, {No: 2, User: 5, Text: "b"}}) || e != api.OK {
		t.Error("delete:", c, e)
	}
	if p, next := Page(c, 1, 10); !slices.Equal(p, []api.Entry{{No: 2, User: 5, Text: "b"}}) || next != 0 {
		t.Error("page:", p, next)
	}
	if d, e := Edit(c, 1, 7, "c"); len(d) != 0 || e != api.ErrNone {
		t.Error("edit:", d, e)
	}
}

func TestMay(t *testing.T) { // P16.1
	for _, l := range good() {
		if !May(l) || !plainMay(l) {
			t.Error(l)
		}
	}
}

func TestMayNot(t *testing.T) { // P16.1
	for _, l := range wrong() {
		if May(l) || plainMay(l) {
			t.Error(l)
		}
	}
}

func TestMayOfEveryShortList(t *testing.T) { // P16.1: numbers 0 to 3, one or no text, there or gone, edited or not
	var kinds []api.Entry
	for no := range 4 {
		for user := range 2 {
			for _, text := range []string{"", "x"} {
				kinds = append(kinds, post(no, user, text), api.Entry{No: no, User: user, Text: text, Edits: -1}, api.Entry{No: no, User: user, Text: text, Gone: true})
			}
		}
	}
	for _, p := range kinds {
		for _, q := range kinds {
			for _, r := range kinds {
				if l := []api.Entry{p, q, r}; May(l) != plainMay(l) || May(l[:2]) != plainMay(l[:2]) || May(l[:1]) != plainMay(l[:1]) {
					t.Fatal(l)
				}
			}
		}
	}
}

func TestLast(t *testing.T) { // P16.1
	for _, l := range good() {
		want := 0
		if len(l) > 0 {
			want = l[len(l)-1].No
		}
		if n := Last(l); n != want {
			t.Error(l, n)
		}
	}
	for _, l := range wrong() { // which are taken for none
		if n := Last(l); n != 0 {
			t.Error(l, n)
		}
	}
}

func TestFind(t *testing.T) { // P16.1
	for _, l := range append(good(), wrong()...) {
		ns := numbers(l)
		for _, p := range l {
			ns = append(ns, p.No)
		}
		for _, no := range ns {
			p, e := Find(l, no)
			if want, wantError := plainFind(l, no); p != want || e != wantError {
				t.Fatal(l, no, p, e)
			}
		}
	}
}

func TestAdd(t *testing.T) { // P16.2
	for _, l := range append(good(), wrong()...) {
		for _, user := range []int{math.MinInt, -1, 0, 1, 7, mostUser, mostUser + 1, mostNumber, math.MaxInt} {
			for _, text := range texts() {
				got, e := Add(l, user, text)
				want, wantError := plainAdd(l, user, text)
				if !slices.Equal(got, want) || e != wantError {
					t.Fatal(l, user, text, got, e)
				}
				if e == api.OK && (!May(got) || Last(got) != Last(l)+1) {
					t.Fatal(got, "may not be")
				}
			}
		}
	}
}

func TestAddLeavesTheFirstOneOut(t *testing.T) { // P16.2: of 32, there or gone, and none of 31
	for _, some := range []bool{false, true} {
		for _, first := range []int{1, 2, 1000, mostNumber - mostPosts} {
			full := row(first, mostPosts, some)
			got, e := Add(full, 5, "z")
			if e != api.OK || len(got) != mostPosts || !slices.Equal(got[:mostPosts-1], full[1:]) || got[mostPosts-1] != post(first+mostPosts, 5, "z") {
				t.Error(first, some, got, e)
			}
			less := row(first, mostPosts-1, some)
			got, e = Add(less, 5, "z")
			if e != api.OK || len(got) != mostPosts || !slices.Equal(got[:mostPosts-1], less) || got[mostPosts-1] != post(first+mostPosts-1, 5, "z") {
				t.Error(first, some, got, e)
			}
		}
	}
	full := allGone(1, mostPosts)
	if got, e := Add(full, 5, "z"); e != api.OK || len(got) != mostPosts || got[0] != full[1] || got[mostPosts-1] != post(33, 5, "z") {
		t.Error(got, e)
	}
}

func TestAddUpToTheGreatestNumber(t *testing.T) { // P16.2
	l := []api.Entry{post(mostNumber-2, 1, "x")}
	for i := range 2 {
		var e api.Errno
		if l, e = Add(l, 2, "y"); e != api.OK || Last(l) != mostNumber-1+i {
			t.Fatal(l, e)
		}
	}
	if got, e := Add(l, 2, "y"); len(got) != 0 || e != api.ErrFull {
		t.Error(got, e)
	}
	if got, e := Add([]api.Entry{gone(mostNumber, 1)}, 2, "y"); len(got) != 0 || e != api.ErrFull {
		t.Error("behind one that is gone:", got, e)
	}
}

func TestEdit(t *testing.T) { // P16.3
	for _, l := range lists() {
		for _, no := range numbers(l) {
			for _, user := range users(l) {
				for _, text := range texts() {
					got, e := Edit(l, no, user, text)
					want, wantError := plainEdit(l, no, user, text)
					if !slices.Equal(got, want) || e != wantError {
						t.Fatal(l, no, user, text, got, e)
					}
					if e == api.OK && !May(got) {
						t.Fatal(got, "may not be")
					}
				}
			}
		}
	}
}

func TestDelete(t *testing.T) { // P16.3
	for _, l := range lists() {
		for _, no := range numbers(l) {
			for _, user := range users(l) {
				for _, owner := range users(l) {
					got, e := Delete(l, no, user, owner)
					want, wantError := plainDelete(l, no, user, owner)
					if !slices.Equal(got, want) || e != wantError {
						t.Fatal(l, no, user, owner, got, e)
					}
					if e == api.OK && (!May(got) || Last(got) != Last(l)) {
						t.Fatal(got, "may not be")
					}
				}
			}
		}
	}
}

func TestEveryPlace(t *testing.T) { // P16.1, P16.3: each one of all that may be is found, edited and deleted
	for _, l := range good() {
		for _, p := range l {
			if q, e := Find(l, p.No); !p.Gone && (q != p || e != api.OK) || p.Gone && (q != api.Entry{} || e != api.ErrNone) {
				t.Error("find:", l, p, q, e)
			}
			got, e := Edit(l, p.No, p.User, "new")
			if want, wantError := plainEdit(l, p.No, p.User, "new"); !slices.Equal(got, want) || e != wantError {
				t.Error("edit:", l, p, got, e)
			}
			for _, by := range []int{p.User, 9} {
				got, e = Delete(l, p.No, by, 9)
				if want, wantError := plainDelete(l, p.No, by, 9); !slices.Equal(got, want) || e != wantError {
					t.Error("delete:", l, p, got, e)
				}
				if _, f := Find(got, p.No); e == api.OK && f != api.ErrNone {
					t.Error("it is there yet:", got, p)
				}
			}
		}
	}
}

func TestEditsAreCounted(t *testing.T) { // P16.3: also if nothing is new, and no more than 2^30
	l := []api.Entry{post(1, 1, "x"), edited(post(2, 1, "x"), mostNumber-2)}
	for i := range 5 {
		var e api.Errno
		if l, e = Edit(l, 1, 1, "x"); e != api.OK || l[0].Edits != i+1 {
			t.Fatal(l, e)
		}
	}
	for i := range 2 {
		var e api.Errno
		if l, e = Edit(l, 2, 1, "y"); e != api.OK || l[1].Edits != mostNumber-1+i {
			t.Fatal(l, e)
		}
	}
	if got, e := Edit(l, 2, 1, "z"); len(got) != 0 || e != api.ErrFull {
		t.Error(got, e)
	}
	if got, e := Delete(l, 2, 1, 9); e != api.OK || got[1] != edited(gone(2, 1), mostNumber) {
		t.Error("delete:", got, e)
	}
}

func TestWhichErrorGoesAhead(t *testing.T) { // P16.2, P16.3, P1
	last := []api.Entry{edited(post(mostNumber-1, 1, "x"), mostNumber), gone(mostNumber, 1)}
	bad := []api.Entry{post(mostNumber, 1, "x"), post(mostNumber, 1, "x")}
	for i, x := range []struct{ got, want api.Errno }{
		{second(Add(last, 0, "x")), api.ErrArg}, // no user, and no number
		{second(Add(last, mostUser+1, "x")), api.ErrArg},
		{second(Add(last, 1, "")), api.ErrArg}, // no text, and no number
		{second(Add(last, 1, "x")), api.ErrFull},
		{second(Add(bad, 1, "x")), api.OK}, // taken for none: number 1
		{second(Add(bad, 0, "x")), api.ErrArg},
		{second(Edit(last, 5, 2, "")), api.ErrArg}, // no text, no post
		{second(Edit(last, mostNumber, 2, "")), api.ErrArg},
		{second(Edit(last, mostNumber-1, 2, "")), api.ErrArg}, // no text, another user's, edited too often
		{second(Edit(last, mostNumber-1, 1, "")), api.ErrArg},
		{second(Edit(last, mostNumber, 1, "z")), api.ErrNone},
		{second(Edit(last, mostNumber, 2, "z")), api.ErrNone},   // gone, and another user's
		{second(Edit(last, mostNumber-1, 2, "z")), api.ErrDeny}, // another user's, edited too often
		{second(Edit(last, mostNumber-1, 0, "z")), api.ErrDeny},
		{second(Edit(last, mostNumber-1, 1, "z")), api.ErrFull},
		{second(Edit(bad, mostNumber, 1, "z")), api.ErrNone},
		{second(Edit(bad, mostNumber, 1, "\n")), api.ErrArg},
		{second(Edit(nil, 0, 0, "z")), api.ErrNone},
		{second(Delete(last, mostNumber, 2, 3)), api.ErrNone}, // gone, and another user's
		{second(Delete(last, mostNumber-1, 2, 3)), api.ErrDeny},
		{second(Delete(last, mostNumber-1, 2, 1)), api.ErrDeny}, // the owner may, not whoever another one owns it
		{second(Delete(last, mostNumber-1, 1, 3)), api.OK},
		{second(Delete(last, mostNumber-1, 3, 3)), api.OK},
		{second(Delete(last, mostNumber-1, 0, 0)), api.OK}, // numbers that are no users are held against each other too
		{second(Delete(last, mostNumber-1, 0, 3)), api.ErrDeny},
		{second(Delete(bad, mostNumber, 1, 1)), api.ErrNone},
		{second(Delete(nil, 0, 0, 0)), api.ErrNone},
	} {
		if x.got != x.want {
			t.Error(i, x.got)
		}
	}
}

func second(_ []api.Entry, e api.Errno) api.Errno { return e }

func TestNoughtsBesideErrors(t *testing.T) { // P1
	for _, l := range lists() {
		for _, no := range numbers(l) {
			if p, e := Find(l, no); e != api.OK && p != (api.Entry{}) {
				t.Error(l, no, p, e)
			}
			for _, user := range []int{0, 1, 2} {
				for _, text := range []string{"", "x"} {
					if got, e := Add(l, user, text); e != api.OK && len(got) != 0 {
						t.Error(l, user, got, e)
					}
					if got, e := Edit(l, no, user, text); e != api.OK && len(got) != 0 {
						t.Error(l, no, got, e)
					}
				}
				if got, e := Delete(l, no, user, 3); e != api.OK && len(got) != 0 {
					t.Error(l, no, got, e)
				}
			}
		}
	}
}

func TestPage(t *testing.T) { // P16.4
	for _, l := range append(good(), wrong()...) {
		for _, from := range numbers(l) {
			for _, many := range []int{math.MinInt, -1, 0, 1, 2, 3, 5, 11, mostPosts - 1, mostPosts, mostPosts + 1, mostNumber, math.MaxInt} {
				got, next := Page(l, from, many)
				want, wantNext := plainPage(l, from, many)
				if !slices.Equal(got, want) || next != wantNext {
					t.Fatal(l, from, many, got, next)
				}
			}
		}
	}
}

func TestPagesByHand(t *testing.T) { // P16.4
	l := []api.Entry{gone(4, 7), post(5, 7, "a"), gone(6, 7), post(7, 8, "b"), post(8, 7, "c"), gone(9, 8)}
	for i, x := range []struct {
		from, many, size, first, next int
	}{
		{0, 9, 3, 5, 0}, {1, 3, 3, 5, 0}, {5, 2, 2, 5, 8}, {5, 1, 1, 5, 7}, {4, 0, 0, 0, 5}, {4, -1, 0, 0, 5}, {4, math.MinInt, 0, 0, 5},
		{6, 1, 1, 7, 8}, {6, 0, 0, 0, 7}, {8, 0, 0, 0, 8}, {8, 1, 1, 8, 0}, {9, 0, 0, 0, 0}, {9, 1, 0, 0, 0}, {10, 5, 0, 0, 0},
		{math.MaxInt, 5, 0, 0, 0}, {math.MinInt, math.MaxInt, 3, 5, 0},
	} {
		got, next := Page(l, x.from, x.many)
		if len(got) != x.size || next != x.next || x.size > 0 && got[0].No != x.first {
			t.Error(i, got, next)
		}
	}
}

func TestWhoPagesOnSeesAll(t *testing.T) { // P16.5: each post that is not gone once, from number to number
	for _, l := range good() {
		for _, from := range []int{math.MinInt, 0, 1, Last(l) - 5, Last(l), Last(l) + 1} {
			want, _ := plainPage(l, from, len(l))
			for many := 1; many <= mostPosts+1; many++ {
				var seen []api.Entry
				at, pages := from, 0
				for pages <= mostPosts {
					got, next := Page(l, at, many)
					seen, pages = append(seen, got...), pages+1
					if next == 0 {
						break
					}
					at = next
				}
				if !slices.Equal(seen, want) {
					t.Fatal(l, from, many, seen)
				}
				if most := max(1, (len(want)+many-1)/many); pages != most {
					t.Fatal(l, from, many, "pages:", pages)
				}
			}
		}
	}
}

// TestLongWalk: who adds, edits and deletes in turn, held against posts by their numbers.
func TestLongWalk(t *testing.T) { // P16.2, P16.3, P16.5: no number is told twice
	var l []api.Entry
	said := map[int]api.Entry{}
	x := uint64(1)
	last, most := 0, 0
	for step := range 20000 {
		x = x*6364136223846793005 + 1442695040888963407
		no, user, text := last+1-int(x>>33)%36, int(x>>45)%4, texts()[int(x>>50)%4]
		p, is := said[no]
		is = is && !p.Gone && no > last-mostPosts
		var got []api.Entry
		var e, want api.Errno
		switch turn := int(x>>59) % 4; {
		case turn == 0 || step%1000 < 50:
			got, e = Add(l, user, text)
			if want = api.ErrArg; user != 0 && text != "" {
				want, last = api.OK, last+1
				if _, twice := said[last]; twice || Last(got) != last {
					t.Fatal(step, got, "number told twice")
				}
				said[last] = post(last, user, text)
			}
		case turn == 1:
			got, e = Delete(l, no, user, 3)
			if want = api.ErrNone; is {
				if want = api.ErrDeny; user == 3 || user == p.User {
					want, said[no] = api.OK, api.Entry{No: no, User: p.User, Edits: p.Edits, Gone: true}
				}
			}
		default:
			got, e = Edit(l, no, user, text)
			if want = api.ErrNone; is {
				want = api.ErrDeny
			}
			if is && user == p.User {
				want = api.OK
			}
			if text == "" {
				want = api.ErrArg
			}
			if want == api.OK {
				said[no] = api.Entry{No: no, User: user, Text: text, Edits: p.Edits + 1}
			}
		}
		if e != want {
			t.Fatal(step, l, no, user, text, e, want)
		}
		if e == api.OK {
			l = got
		}
		var all []api.Entry
		for n := max(1, last-mostPosts+1); n <= last; n++ {
			all = append(all, said[n])
			most = max(most, said[n].Edits)
		}
		if !slices.Equal(l, all) || !May(l) || Last(l) != last {
			t.Fatal(step, l, all)
		}
	}
	if last < 1000 || most < 3 {
		t.Error("too little happened:", last, most)
	}
}

func TestNumbersGoOnBehindWhatIsGone(t *testing.T) { // P16.5
	var l []api.Entry
	for no := 1; no <= 100; no++ {
		var e api.Errno
		if l, e = Add(l, 1, "x"); e != api.OK || Last(l) != no {
			t.Fatal(l, e)
		}
		if l, e = Delete(l, no, 1, 1); e != api.OK || Last(l) != no || len(l) != min(no, mostPosts) {
			t.Fatal(l, e)
		}
		if p, next := Page(l, 0, 5); len(p) != 0 || next != 0 {
			t.Fatal(p, next)
		}
	}
}

// roomy are posts that are the first of a longer list, so that what is written behind them is seen.
func roomy(l []api.Entry) (given, all []api.Entry) {
	all = make([]api.Entry, len(l)+20)
	for i := range all {
		all[i] = api.Entry{No: -100 - i, Text: "behind"}
	}
	copy(all, l)
	return all[:len(l)], all
}

// calls are all that answer posts, each by two numbers.
func calls() []func(l []api.Entry, no, user int) []api.Entry {
	return []func(l []api.Entry, no, user int) []api.Entry{
		func(l []api.Entry, no, user int) []api.Entry { got, _ := Add(l, user, "new"); return got },
		func(l []api.Entry, no, user int) []api.Entry { got, _ := Edit(l, no, user, "new"); return got },
		func(l []api.Entry, no, user int) []api.Entry { got, _ := Delete(l, no, user, 3); return got },
		func(l []api.Entry, no, user int) []api.Entry { got, _ := Page(l, no, user); return got },
	}
}

func TestWhatIsHandedInStays(t *testing.T) { // R3
	for _, l := range append(good(), wrong()...) {
		given, all := roomy(l)
		before := slices.Clone(all)
		for _, no := range numbers(l) {
			for _, user := range []int{0, 1, 3, 40} {
				for _, f := range calls() {
					f(given, no, user)
				}
			}
			Find(given, no)
		}
		May(given)
		Last(given)
		if !slices.Equal(all, before) {
			t.Fatal(l, "became", all)
		}
	}
}

func TestAnswersAreTheCallers(t *testing.T) { // R3: a change of either changes nothing of the other
	for _, l := range good() {
		for _, no := range []int{0, 1, 2, Last(l) - 1, Last(l)} {
			for _, user := range []int{1, 2, 3, 40} {
				for _, f := range calls() {
					given, all := roomy(l)
					got := f(given, no, user)
					want := slices.Clone(got)
					for i := range all {
						all[i] = api.Entry{No: -1}
					}
					if !slices.Equal(got, want) {
						t.Fatal(l, no, user, "answer changed with the argument")
					}
					copy(all, l)
					whole := got[:cap(got)]
					for i := range whole {
						whole[i] = api.Entry{No: -2}
					}
					if !slices.Equal(given, l) || slices.Contains(all, api.Entry{No: -2}) {
						t.Fatal(l, no, user, "argument changed with the answer")
					}
				}
			}
		}
	}
}

func TestSameAnswersAgain(t *testing.T) { // R5
	for _, l := range good() {
		for _, no := range []int{1, Last(l) - 1, Last(l)} {
			for _, f := range calls() {
				once := f(l, no, 2)
				want := slices.Clone(once)
				for i := range once {
					once[i] = api.Entry{No: -3}
				}
				for _, g := range calls() {
					g(l, no, 3)
				}
				if again := f(l, no, 2); !slices.Equal(again, want) {
					t.Fatal(l, no, again)
				}
			}
		}
	}
}
