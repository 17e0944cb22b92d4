package command

import (
	"bytes"
	"math"
	"strings"
	"testing"

	"colloquy/api"
)

// The limits and kinds are written out here, so that a wrong one of the package is seen.
const (
	mostUser    = 1 << 20
	mostNumber  = 1 << 30
	mostChannel = 1 << 20
	mostText    = 64
)

const (
	nop = iota
	open
	join
	leave
	post
	edit
	remove
	fetch
	kinds
)

func hasN(kind int) bool    { return kind == edit || kind == remove || kind == fetch }
func hasText(kind int) bool { return kind == post || kind == edit }

// wrong are kinds that are none.
func wrong() []int {
	return []int{-1, kinds, kinds + 1, 127, 128, 1 << 20, 1 << 56, math.MinInt, math.MaxInt}
}

// noise is so many bytes of no plain pattern, the same ones each time.
func noise(size int) []byte {
	b := make([]byte, size)
	x := uint64(size) + 1
	for i := range b {
		x = x*6364136223846793005 + 1442695040888963407
		b[i] = byte(x >> 33)
	}
	return b
}

// plain is a command of a kind that may be.
func plain(kind int) api.Cmd {
	c := api.Cmd{Kind: kind}
	if kind == nop {
		return c
	}
	c.User, c.Seq, c.Channel = 7, 300, 3
	if hasN(kind) {
		c.N = 9
	}
	if hasText(kind) {
		c.Text = "hi"
	}
	return c
}

// fields are the places of a command's numbers.
func fields(c *api.Cmd) []*int {
	return []*int{&c.User, &c.Seq, &c.Channel, &c.N}
}

// greatest is what a field of a kind may be at most; 0, if it must be 0.
func greatest(kind int) []int {
	if kind == nop {
		return make([]int, 4)
	}
	l := []int{mostUser, mostNumber, mostChannel, 0}
	if hasN(kind) {
		l[3] = mostNumber
	}
	return l
}

// samples are commands that may be, with numbers and texts around every edge.
func samples() []api.Cmd {
	var l []api.Cmd
	for kind := range kinds {
		l = append(l, plain(kind))
		for i, most := range greatest(kind) {
			for _, n := range []int{1, 2, 127, 128, 300, 16383, 16384, most - 1, most} {
				c := plain(kind)
				if *fields(&c)[i] = n; most > 0 {
					l = append(l, c)
				}
			}
		}
		for _, s := range texts() {
			if c := plain(kind); hasText(kind) {
				c.Text = s
				l = append(l, c)
			}
		}
	}
	return l
}

// texts are any bytes, runes or not.
func texts() []string {
	return []string{"a", "\x00", "\xff", "é", "\x80\x80", " ", "\x00\x00\x00", string(noise(2)), string(noise(63)), string(noise(64)), strings.Repeat("x", 64), strings.Repeat("é", 32)}
}

// others are commands that may not be, each by one thing that is another one than it may be.
func others() []api.Cmd {
	var l []api.Cmd
	for _, kind := range wrong() {
		c := plain(open)
		c.Kind = kind
		l = append(l, api.Cmd{Kind: kind}, c)
	}
	for kind := range kinds {
		for i, most := range greatest(kind) {
			bad := []int{-1, most + 1, 1 << 56, math.MinInt, math.MaxInt}
			if most > 0 {
				bad = append(bad, 0)
			} else {
				bad = append(bad, 2, 128)
			}
			for _, n := range bad {
				c := plain(kind)
				*fields(&c)[i] = n
				l = append(l, c)
			}
		}
		c, d := plain(kind), plain(kind)
		if hasText(kind) {
			c.Text, d.Text = "", strings.Repeat("x", 65)
		} else {
			c.Text, d.Text = "x", string(noise(64))
		}
		e := c
		e.Text = string(noise(100000))
		l = append(l, c, d, e)
	}
	return l
}

func digits(n int) []byte {
	out := []byte{byte(n % 128)}
	for n /= 128; n > 0; n /= 128 {
		out = append([]byte{byte(n%128 + 128)}, out...)
	}
	return out
}

// laid are numbers by the words of chapter 1, and a text behind them.
func laid(text string, l ...int) []byte {
	var out []byte
	for _, n := range l {
		out = append(out, digits(n)...)
	}
	return append(out, text...)
}

// bytesOf are a command's bytes by the chapter's words, made without the layer below.
func bytesOf(c api.Cmd) []byte {
	switch c.Kind {
	case nop:
		return laid("", nop)
	case open, join, leave:
		return laid("", c.Kind, c.User, c.Seq, c.Channel)
	case post:
		return laid(c.Text, c.Kind, c.User, c.Seq, c.Channel, len(c.Text))
	case edit:
		return laid(c.Text, c.Kind, c.User, c.Seq, c.Channel, c.N, len(c.Text))
	}
	return laid("", c.Kind, c.User, c.Seq, c.Channel, c.N)
}

func refused(t *testing.T, b []byte, want api.Errno) {
	t.Helper()
	if c, e := Get(b); e != want || c != (api.Cmd{}) {
		t.Errorf("Get of %d bytes, %x..: %#v %d, want the error %d and noughts", len(b), b[:min(len(b), 24)], c, e, want)
	}
}

func TestMay(t *testing.T) { // P4.1
	for _, c := range samples() {
		if !May(c) {
			t.Errorf("%#v may be", c)
		}
	}
	for _, c := range others() {
		if May(c) {
			t.Errorf("kind %d, %d %d %d %d, %d bytes may not be", c.Kind, c.User, c.Seq, c.Channel, c.N, len(c.Text))
		}
	}
}

func TestMayNop(t *testing.T) { // P4.1: with all else noughts
	if !May(api.Cmd{}) {
		t.Error("Nop may be")
	}
	for _, c := range []api.Cmd{{User: 1}, {Seq: 1}, {Channel: 1}, {N: 1}, {Text: "x"}, {User: 1, Seq: 1, Channel: 1}, {User: 1, Seq: 1, Channel: 1, N: 1, Text: "x"}} {
		if May(c) {
			t.Errorf("%#v may not be", c)
		}
	}
}

func TestReads(t *testing.T) { // P4.1
	for kind := range kinds {
		want := kind == fetch || kind == nop
		for _, c := range []api.Cmd{plain(kind), {Kind: kind}, {Kind: kind, User: -1, Text: "x"}} {
			if Reads(c) != want {
				t.Errorf("%#v: %v", c, !want)
			}
		}
	}
	for _, kind := range wrong() {
		if Reads(api.Cmd{Kind: kind}) {
			t.Errorf("kind %d is none, and none that reads", kind)
		}
	}
}

func TestPutExamples(t *testing.T) { // P4.2
	for _, x := range []struct {
		c    api.Cmd
		want []byte
	}{
		{api.Cmd{}, []byte{0}},
		{api.Cmd{User: 7, Seq: 1, Kind: api.Post, Channel: 3, Text: "hi"}, []byte{4, 7, 1, 3, 2, 104, 105}},
		{api.Cmd{User: 1, Seq: 2, Kind: api.Open, Channel: 3}, []byte{1, 1, 2, 3}},
		{api.Cmd{User: 1, Seq: 2, Kind: api.Join, Channel: 3}, []byte{2, 1, 2, 3}},
		{api.Cmd{User: 1, Seq: 2, Kind: api.Leave, Channel: 3}, []byte{3, 1, 2, 3}},
		{api.Cmd{User: 1, Seq: 2, Kind: api.Edit, Channel: 3, N: 300, Text: "x"}, []byte{5, 1, 2, 3, 130, 44, 1, 120}},
		{api.Cmd{User: 1, Seq: 2, Kind: api.Delete, Channel: 3, N: 4}, []byte{6, 1, 2, 3, 4}},
		{api.Cmd{User: mostUser, Seq: mostNumber, Kind: api.Fetch, Channel: mostChannel, N: mostNumber}, []byte{7, 192, 128, 0, 132, 128, 128, 128, 0, 192, 128, 0, 132, 128, 128, 128, 0}},
	} {
		if b, e := Put(x.c); e != api.OK || !bytes.Equal(b, x.want) {
			t.Errorf("Put(%#v): %v %d, want %v", x.c, b, e, x.want)
		}
	}
}

func TestPut(t *testing.T) { // P4.2
	for _, c := range samples() {
		if b, e := Put(c); e != api.OK || !bytes.Equal(b, bytesOf(c)) {
			t.Errorf("%#v: %x %d", c, b, e)
		}
	}
	for _, c := range others() {
		if b, e := Put(c); e != api.ErrArg || len(b) != 0 {
			t.Errorf("kind %d, %d %d %d %d, %d bytes: %x %d", c.Kind, c.User, c.Seq, c.Channel, c.N, len(c.Text), b, e)
		}
	}
}

func TestGet(t *testing.T) { // P4.2
	for _, c := range samples() {
		b := bytesOf(c)
		if g, e := Get(b); e != api.OK || g != c {
			t.Errorf("%x: %#v %d, want %#v", b, g, e, c)
		}
		for i := range b {
			refused(t, b[:i], api.ErrMore)
		}
		for _, behind := range [][]byte{{0}, {128}, {255}, b, noise(100)} {
			refused(t, append(bytes.Clone(b), behind...), api.ErrForm)
		}
	}
	refused(t, nil, api.ErrMore)
}

func TestGetRefusesNumbers(t *testing.T) { // P4.2: vlq's errors, number by number
	for kind := range kinds {
		b := bytesOf(plain(kind))
		for _, at := range starts(plain(kind)) {
			head := b[:at:at]
			refused(t, append(head, 128), api.ErrForm)
			refused(t, append(head, 128, 1), api.ErrForm)
			refused(t, append(head, 255, 255, 255, 255, 255, 255, 255, 128), api.ErrForm)
			refused(t, append(head, 129), api.ErrMore)
			refused(t, append(head, 255, 255, 255, 255, 255, 255, 255), api.ErrMore)
		}
	}
}

// starts are the places in a command's bytes where a number begins.
func starts(c api.Cmd) []int {
	b := bytesOf(c)
	l := []int{0}
	for i := range len(b) - len(c.Text) - 1 {
		if b[i] < 128 {
			l = append(l, i+1)
		}
	}
	return l
}

func TestGetRefusesKinds(t *testing.T) { // P4.2: ErrForm of a Kind that is none, ahead of all behind it
	for _, kind := range wrong() {
		if kind < 0 || kind >= api.MaxInt {
			continue
		}
		for _, behind := range [][]byte{nil, {129}, {128}, {7}, {7, 1, 3}, {7, 1, 3, 9}, {7, 1, 3, 2, 104, 105}} {
			refused(t, append(digits(kind), behind...), api.ErrForm)
		}
	}
}

func TestGetRefusesWhatMayNotBe(t *testing.T) { // P4.2
	for _, c := range others() {
		if c.Kind <= nop || c.Kind >= kinds || hasText(c.Kind) != (c.Text != "") || hasN(c.Kind) != (c.N != 0) {
			continue // its bytes are none, or are those of another command
		}
		if min(c.User, c.Seq, c.Channel, c.N) < 0 || max(c.User, c.Seq, c.Channel, c.N) >= api.MaxInt {
			continue
		}
		refused(t, bytesOf(c), api.ErrForm)
	}
	for _, b := range [][]byte{
		{1, 0, 1, 1},
		{1, 1, 0, 1},
		{1, 1, 1, 0},
		{7, 1, 2, 4, 0},
		{4, 7, 1, 3, 0},
		{5, 7, 1, 3, 0, 1, 120},
		{5, 7, 1, 3, 9, 0},
		laid("", open, mostUser+1, 1, 1),
		laid("", open, 1, mostNumber+1, 1),
		laid("", open, 1, 1, mostChannel+1),
		laid("", fetch, 1, 1, 1, mostNumber+1),
		laid(string(noise(65)), post, 1, 1, 1, 65),
		laid(string(noise(2000)), edit, 1, 1, 1, 1, 2000),
	} {
		refused(t, b, api.ErrForm)
	}
}

func TestGetFirstError(t *testing.T) { // P4.2, R2: what may not be is told only of a command that is there whole
	for _, x := range []struct {
		b    []byte
		want api.Errno
	}{
		{[]byte{1, 0}, api.ErrMore},
		{[]byte{1, 0, 0}, api.ErrMore},
		{laid("", open, api.MaxInt-1, 1), api.ErrMore},
		{[]byte{7, 0, 0, 0}, api.ErrMore},
		{[]byte{7, 0, 0, 0, 129}, api.ErrMore},
		{[]byte{7, 0, 0, 0, 128}, api.ErrForm},
		{[]byte{4, 0, 0, 0}, api.ErrMore},
		{[]byte{4, 0, 0, 0, 1}, api.ErrMore},
		{[]byte{4, 0, 0, 0, 1, 120}, api.ErrForm},
		{[]byte{5, 7, 1, 3, 0}, api.ErrMore},
		{[]byte{5, 7, 1, 3, 0, 2, 120}, api.ErrMore},
		{laid("", post, 7, 1, 3, 64), api.ErrMore},
		{laid("", post, 7, 1, 3, 65), api.ErrMore},
		{laid(string(noise(64)), post, 7, 1, 3, 65), api.ErrMore},
		{laid(string(noise(66)), post, 7, 1, 3, 65), api.ErrForm},
		{laid("hi", post, 7, 1, 3, api.MaxInt-1), api.ErrMore},
		{laid("hi", edit, 7, 1, 3, 9, api.MaxInt-1), api.ErrMore},
		{laid("hi", post, 0, 0, 0, 3), api.ErrMore},
		{laid("hi", post, 7, 1, 3, 1), api.ErrForm},
		{[]byte{0, 128}, api.ErrForm},
		{[]byte{0, 0}, api.ErrForm},
		{[]byte{0, 7, 1, 3}, api.ErrForm},
	} {
		refused(t, x.b, x.want)
	}
}

func TestPutIsGot(t *testing.T) { // P4.3
	for _, c := range samples() {
		b, e := Put(c)
		if e != api.OK {
			t.Fatalf("%#v: %d", c, e)
		}
		g, e := Get(b)
		if e != api.OK || g != c {
			t.Errorf("%#v: got as %#v %d", c, g, e)
		}
		if again, e := Put(g); e != api.OK || !bytes.Equal(again, b) {
			t.Errorf("%#v: got, and put as %x %d", c, again, e)
		}
	}
}

// checkAny holds that bytes are a command's, or are refused.
func checkAny(t *testing.T, b []byte) {
	t.Helper()
	c, e := Get(b)
	switch e {
	case api.OK:
		if again, f := Put(c); f != api.OK || !May(c) || !bytes.Equal(again, b) || !bytes.Equal(bytesOf(c), b) {
			t.Fatalf("%x: got as %#v, put as %x %d", b, c, again, f)
		}
	case api.ErrForm, api.ErrMore:
		if c != (api.Cmd{}) {
			t.Fatalf("%x: %#v beside the error %d", b, c, e)
		}
	default:
		t.Fatalf("%x: the error %d", b, e)
	}
}

func TestAnyBytes(t *testing.T) { // P1, P4.3: what is got is put as the same bytes, all else is refused
	for _, c := range samples() {
		b := bytesOf(c)
		for i := range b {
			was := b[i]
			for x := range 256 {
				b[i] = byte(x)
				checkAny(t, b)
			}
			b[i] = was
			checkAny(t, append(bytes.Clone(b[:i]), b[i+1:]...))
		}
	}
	for size := range 200 {
		b := noise(size)
		checkAny(t, b)
		for kind := range kinds {
			checkAny(t, append([]byte{byte(kind)}, b...))
			checkAny(t, append([]byte{byte(kind), 7, 1, 3}, b...))
		}
	}
}

func TestFewBytes(t *testing.T) { // P4.3: all that are few, so that each command has one form
	seen := map[api.Cmd][]byte{}
	edges := []byte{0, 1, 2, 7, 8, 127, 128, 129, 255}
	var more func(b []byte)
	more = func(b []byte) {
		checkAny(t, b)
		if c, e := Get(b); e == api.OK {
			if seen[c] != nil {
				t.Fatalf("%x and %x are one command", seen[c], b)
			}
			seen[c] = bytes.Clone(b)
		}
		if len(b) == 5 {
			return
		}
		for _, x := range edges {
			more(append(b[:len(b):len(b)], x))
		}
	}
	for kind := range kinds + 1 {
		more([]byte{byte(kind)})
	}
	if len(seen) < 1000 {
		t.Error(len(seen))
	}
}

func TestSharesNothing(t *testing.T) { // R3
	c := plain(edit)
	b, _ := Put(c)
	other, _ := Put(c)
	_ = append(b[:1], 9)
	clear(b)
	if !bytes.Equal(other, bytesOf(c)) || c != plain(edit) {
		t.Error("the bytes hang on the command, or on others")
	}
	g, _ := Get(other)
	if !bytes.Equal(other, bytesOf(c)) {
		t.Error("the bytes were changed")
	}
	clear(other)
	if g != c {
		t.Error("the command hangs on the bytes")
	}
}
