package text

import (
	"math"
	"math/big"
	"regexp"
	"slices"
	"strconv"
	"strings"
	"testing"
	"unsafe"

	"colloquy/api"
)

// The limits, kinds and words are written out here, so that a wrong one of the package is seen.
const (
	mostChannel = 1 << 20
	mostNumber  = 1 << 30
	mostText    = 64
)

const (
	nop = iota
	open
	join
	leave
	post
	edit
	remove
	fetch
	kinds
)

var plainWords = []string{"nop", "open", "join", "leave", "post", "edit", "delete", "fetch"}

func hasN(kind int) bool    { return kind == edit || kind == remove || kind == fetch }
func hasText(kind int) bool { return kind == post || kind == edit }

// noise is so many bytes of no plain pattern, the same ones each time.
func noise(size int) []byte {
	b := make([]byte, size)
	x := uint64(size) + 1
	for i := range b {
		x = x*6364136223846793005 + 1442695040888963407
		b[i] = byte(x >> 33)
	}
	return b
}

// tails are the bytes that may follow a first one, as RFC 3629 lists them: from low to high for the second one, and how many in all.
func tails(first byte) (low, high byte, size int) {
	switch {
	case first <= 0x7f:
		return 0, 0, 0
	case first >= 0xc2 && first <= 0xdf:
		return 0x80, 0xbf, 1
	case first == 0xe0:
		return 0xa0, 0xbf, 2
	case first == 0xed:
		return 0x80, 0x9f, 2
	case first >= 0xe1 && first <= 0xef:
		return 0x80, 0xbf, 2
	case first == 0xf0:
		return 0x90, 0xbf, 3
	case first >= 0xf1 && first <= 0xf3:
		return 0x80, 0xbf, 3
	case first == 0xf4:
		return 0x80, 0x8f, 3
	}
	return 0, 0, -1
}

// plainMay goes by the bytes alone.
func plainMay(s string) bool {
	if len(s) == 0 || len(s) > mostText {
		return false
	}
	for i := 0; i < len(s); i++ {
		if s[i] < 32 || s[i] == 127 {
			return false
		}
		low, high, size := tails(s[i])
		if size < 0 || i+size >= len(s) {
			return false
		}
		for k := range size {
			i++
			if s[i] < low || s[i] > high {
				return false
			}
			if k == 0 {
				low, high = 0x80, 0xbf
			}
		}
	}
	return true
}

var (
	shape = regexp.MustCompile(`(?s)^/(open|join|leave|post|edit|delete|fetch)( .*)?$`)
	digit = regexp.MustCompile(`(?s)^ ([1-9][0-9]*)(.*)$`)
)

func plainNumber(left string, most int64) (int, string, api.Errno) {
	m := digit.FindStringSubmatch(left)
	if m == nil {
		return 0, "", api.ErrForm
	}
	n, _ := new(big.Int).SetString(m[1], 10)
	if n.Cmp(big.NewInt(most)) > 0 {
		return 0, "", api.ErrArg
	}
	return int(n.Int64()), m[2], api.OK
}

// plainParse takes a line to pieces by patterns, and counts without end.
func plainParse(line string) (api.Cmd, api.Errno) {
	m := shape.FindStringSubmatch(line)
	if m == nil {
		return api.Cmd{}, api.ErrForm
	}
	c := api.Cmd{Kind: slices.Index(plainWords, m[1])}
	var e api.Errno
	left := m[2]
	if c.Channel, left, e = plainNumber(left, mostChannel); e != api.OK {
		return api.Cmd{}, e
	}
	if hasN(c.Kind) {
		if c.N, left, e = plainNumber(left, mostNumber); e != api.OK {
			return api.Cmd{}, e
		}
	}
	switch {
	case !hasText(c.Kind):
		if left != "" {
			return api.Cmd{}, api.ErrForm
		}
	case left == "" || left[0] != ' ':
		return api.Cmd{}, api.ErrForm
	case len(left)-1 > mostText:
		return api.Cmd{}, api.ErrFull
	case !plainMay(left[1:]):
		return api.Cmd{}, api.ErrForm
	default:
		c.Text = left[1:]
	}
	return c, api.OK
}

// plain is a command without what its kind does not need.
func plain(c api.Cmd) api.Cmd {
	c.User, c.Seq = 0, 0
	if !hasN(c.Kind) {
		c.N = 0
	}
	if !hasText(c.Kind) {
		c.Text = ""
	}
	return c
}

func plainShow(c api.Cmd) (string, api.Errno) {
	if c.Kind < open || c.Kind > fetch || c.Channel < 1 || c.Channel > mostChannel {
		return "", api.ErrArg
	}
	l := []string{"/" + plainWords[c.Kind], strconv.Itoa(c.Channel)}
	if hasN(c.Kind) {
		if c.N < 1 || c.N > mostNumber {
			return "", api.ErrArg
		}
		l = append(l, strconv.Itoa(c.N))
	}
	if hasText(c.Kind) {
		if !plainMay(c.Text) {
			return "", api.ErrArg
		}
		l = append(l, c.Text)
	}
	return strings.Join(l, " "), api.OK
}

// goodTexts may be, and stand at every edge.
func goodTexts() []string {
	return []string{
		" ", "a", "  ", "/", "/post 3 hello", "03", "hello  you ", "~", "\u0080", "\u009f", "é", "\u07ff", "\u0800", "€", "\ud7ff", "\ue000", "\ufeff", "\ufffc", "\ufffd", "\ufffe", "\uffff",
		"\U00010000", "\U0001f600", "\U0010ffff", "a\ufffdb\u00a0", strings.Repeat("x", 64), strings.Repeat(" ", 64), strings.Repeat("é", 32), strings.Repeat("€", 21) + "x", strings.Repeat("\U0010ffff", 16),
	}
}

// badTexts may not be, but none is too long.
func badTexts() []string {
	return []string{
		"", "\x00", "\t", "\n", "\r", "\x1f", "\x7f", "a\n", "\na", "a\x7fb", "hi\x00", "\x80", "\xbf", "\xc0", "\xc1", "\xff", "\xfe", "\xf5", "\xc2", "é\xc3", "\xc3é", "\xc3\xc3\xa9",
		"\xc0\x80", "\xc0\xaf", "\xc1\xbf", "\xe0\x80\x80", "\xe0\x9f\xbf", "\xf0\x80\x80\x80", "\xf0\x8f\xbf\xbf", // not the shortest form
		"\xed\xa0\x80", "\xed\xad\xbf", "\xed\xbf\xbf", "\xed\xa0\xbd\xed\xb8\x80", // surrogates
		"\xf4\x90\x80\x80", "\xf5\x80\x80\x80", "\xf7\xbf\xbf\xbf", "\xf8\x88\x80\x80\x80", "\xfc\x84\x80\x80\x80\x80", // beyond 10ffff
		"\xe2\x82", "\xe2", "\xf0\x9f\x98", "\xf0\x9f", "\xf0", "\xe2\x82a", "\xef\xbf", "\xef\xbf\xbd\xef\xbf", "\ufffd\xff", "\xff\ufffd", "a\u20ac\x82", // torn
		strings.Repeat("x", 63) + "\xff", strings.Repeat("x", 63) + "\n", strings.Repeat("x", 62) + "\xe2\x82", "\x7f" + strings.Repeat("x", 63),
	}
}

// longTexts are too long, whether or not they were UTF-8.
func longTexts() []string {
	return []string{strings.Repeat("x", 65), strings.Repeat("x", 64) + "\n", "\xff" + strings.Repeat("x", 64), strings.Repeat("é", 32) + " ", strings.Repeat("€", 22), strings.Repeat("\U0010ffff", 17), strings.Repeat("\x00", 65), string(noise(65)), string(noise(100000))}
}

// commands are some of all kinds, and of none, with every field at its edges, those that are not needed too.
func commands() []api.Cmd {
	numbers := []int{math.MinInt, -1, 0, 1, 2, 9, 10, 300, mostChannel - 1, mostChannel, mostChannel + 1, mostNumber - 1, mostNumber, mostNumber + 1, 1 << 56, math.MaxInt}
	texts := slices.Concat(goodTexts(), badTexts(), longTexts())
	var l []api.Cmd
	for _, kind := range []int{math.MinInt, -2, -1, nop, open, join, leave, post, edit, remove, fetch, kinds, kinds + 1, 1 << 20, math.MaxInt} {
		for _, channel := range numbers {
			for _, n := range numbers {
				l = append(l, api.Cmd{Kind: kind, Channel: channel, N: n, Text: "hi"}, api.Cmd{User: n, Seq: channel, Kind: kind, Channel: channel, N: n})
			}
		}
		for _, s := range texts {
			l = append(l, api.Cmd{Kind: kind, Channel: 3, N: 7, Text: s}, api.Cmd{User: -1, Seq: 5, Kind: kind, Channel: mostChannel, N: mostNumber, Text: s})
		}
	}
	return l
}

// lines are some of pieces that are right and wrong, at every place.
func lines() []string {
	words := append(slices.Clone(plainWords), "", "posts", "pos", "Post", "edit\t")
	spaces := []string{" ", "", "  "}
	numbers := []string{"3", "", "0", "03", "1048576", "1048577", "1073741824", "1073741825", "9999999999", "10000000000", "18446744073709551617", "-1", "+1", "3x", "\uff13", "1e1"}
	texts := []string{"", "hi", "a b ", "\n", "\xff", strings.Repeat("x", 64), strings.Repeat("x", 65)}
	var ends, l []string
	for _, space := range spaces {
		for _, s := range texts {
			ends = append(ends, space+s)
		}
		for _, n := range numbers {
			for _, between := range spaces {
				for _, s := range texts {
					ends = append(ends, space+n+between+s)
				}
			}
		}
	}
	for _, word := range words {
		for _, space := range spaces {
			for _, n := range numbers {
				for _, end := range ends {
					l = append(l, "/"+word+space+n+end)
				}
			}
		}
	}
	return l
}

// fewLines ask for something each, and are short enough to change them at every place.
func fewLines() []string {
	return []string{"/open 1", "/join 1048576", "/leave 20", "/post 3 hello you", "/post 3 é€", "/edit 1 1073741824 \U0010ffff", "/edit 10 20  30 ", "/delete 1 2", "/fetch 1048576 1000000000"}
}

func checkParse(t *testing.T, line string) {
	t.Helper()
	want, e := plainParse(line)
	if c, f := Parse(line); c != want || f != e {
		t.Fatalf("%q: %v, error %d, want %v, %d", line, c, f, want, e)
	}
}

func TestWords(t *testing.T) { // P14.1
	if l := Words(); !slices.Equal(l, plainWords) {
		t.Error(l)
	}
}

func TestWordsAreNew(t *testing.T) { // P14.1, R3: what a caller makes of them changes nothing
	l := Words()
	for i := range l {
		l[i] = "join"
	}
	if !slices.Equal(Words(), plainWords) {
		t.Error(Words())
	}
	if s, e := Show(api.Cmd{Kind: open, Channel: 1}); s != "/open 1" || e != api.OK {
		t.Error(s, e)
	}
	if c, e := Parse("/open 1"); c != (api.Cmd{Kind: open, Channel: 1}) || e != api.OK {
		t.Error(c, e)
	}
}

func TestMay(t *testing.T) { // P14.1
	for _, s := range goodTexts() {
		if !May(s) {
			t.Errorf("%q may not be", s)
		}
	}
	for _, s := range slices.Concat(badTexts(), longTexts()) {
		if May(s) {
			t.Errorf("%q may be", s)
		}
	}
}

func TestMaySizes(t *testing.T) { // P14.1: bytes are counted, not runes
	for size := range 200 {
		for _, unit := range []string{"x", "é", "€", "\U0001f600"} {
			s := strings.Repeat(unit, size)
			if May(s) != (len(s) >= 1 && len(s) <= mostText) {
				t.Errorf("%d times %q: %t", size, unit, May(s))
			}
		}
	}
}

func TestMayOfFewBytes(t *testing.T) { // P14.1: of all that are three, and of four at the edges
	for a := range 256 {
		for b := range 256 {
			for _, s := range []string{string([]byte{byte(a)}), string([]byte{byte(a), byte(b)})} {
				if May(s) != plainMay(s) {
					t.Fatalf("%x: %t", s, May(s))
				}
			}
			for c := range 256 {
				s := [3]byte{byte(a), byte(b), byte(c)}
				if x := string(s[:]); May(x) != plainMay(x) {
					t.Fatalf("%x: %t", x, May(x))
				}
			}
		}
	}
	edges := []byte{0, 0x1f, 0x20, 0x7e, 0x7f, 0x80, 0x8f, 0x90, 0x9f, 0xa0, 0xbd, 0xbf, 0xc0, 0xc1, 0xc2, 0xdf, 0xe0, 0xe1, 0xed, 0xef, 0xf0, 0xf1, 0xf3, 0xf4, 0xf5, 0xff}
	for _, a := range edges {
		for _, b := range edges {
			for _, c := range edges {
				for _, d := range edges {
					if s := string([]byte{a, b, c, d}); May(s) != plainMay(s) {
						t.Fatalf("%x: %t", s, May(s))
					}
				}
			}
		}
	}
}

func TestMayOfAllRunes(t *testing.T) { // P14.1
	for r := rune(0); r <= 0x10ffff; r++ {
		if r >= 0xd800 && r <= 0xdfff {
			continue
		}
		if s := string(r); May(s) != (r >= 32 && r != 127) {
			t.Fatalf("%x: %t", r, May(s))
		}
	}
}

func TestMayAtEveryPlace(t *testing.T) { // P14.1: one byte that may not be is enough, wherever
	for b := range 256 {
		for at := range mostText {
			s := []byte(strings.Repeat("x", mostText))
			s[at] = byte(b)
			if May(string(s)) != (b >= 32 && b < 127) {
				t.Fatalf("byte %d at %d: %t", b, at, May(string(s)))
			}
		}
	}
}

func TestParseExamples(t *testing.T) { // P14.2
	for line, want := range map[string]api.Cmd{
		"/open 1":               {Kind: open, Channel: 1},
		"/join 1048576":         {Kind: join, Channel: mostChannel},
		"/leave 10":             {Kind: leave, Channel: 10},
		"/post 3 hello you":     {Kind: post, Channel: 3, Text: "hello you"},
		"/post 3  ":             {Kind: post, Channel: 3, Text: " "},
		"/post 3 4":             {Kind: post, Channel: 3, Text: "4"},
		"/edit 1 1073741824 03": {Kind: edit, Channel: 1, N: mostNumber, Text: "03"},
		"/edit 1 2 3 4":         {Kind: edit, Channel: 1, N: 2, Text: "3 4"},
		"/edit 1 2 \ufffd":      {Kind: edit, Channel: 1, N: 2, Text: "\ufffd"},
		"/delete 12 34":         {Kind: remove, Channel: 12, N: 34},
		"/fetch 3 1000000000":   {Kind: fetch, Channel: 3, N: 1000000000},
		"/post 3 /nop 1":        {Kind: post, Channel: 3, Text: "/nop 1"},
	} {
		if c, e := Parse(line); c != want || e != api.OK {
			t.Errorf("%q: %v, error %d", line, c, e)
		}
	}
}

func TestParseRefuses(t *testing.T) { // P14.2, R2, R4: the first that is wrong from the left to the right, and noughts beside it
	long := strings.Repeat("x", 65)
	for line, want := range map[string]api.Errno{
		"":                                     api.ErrForm,
		"post 3 hi":                            api.ErrForm,
		" /post 3 hi":                          api.ErrForm,
		"\\post 3 hi":                          api.ErrForm,
		"/":                                    api.ErrForm,
		"//post 3 hi":                          api.ErrForm,
		"/ post 3 hi":                          api.ErrForm,
		"/nop":                                 api.ErrForm,
		"/nop 1":                               api.ErrForm,
		"/Join 1":                              api.ErrForm,
		"/joi 1":                               api.ErrForm,
		"/joins 1":                             api.ErrForm,
		"/join\t1":                             api.ErrForm,
		"/say 99999999999":                     api.ErrForm, // the word is ahead of the number
		"/join":                                api.ErrForm,
		"/join ":                               api.ErrForm,
		"/join x":                              api.ErrForm,
		"/join 0":                              api.ErrForm,
		"/join 03":                             api.ErrForm,
		"/join 00000000000":                    api.ErrForm, // the first digit is ahead of how many there are
		"/join -1":                             api.ErrForm,
		"/join +1":                             api.ErrForm,
		"/join  1":                             api.ErrForm,
		"/join \u0663":                         api.ErrForm, // a digit, but not a decimal one of these
		"/join 3x":                             api.ErrForm,
		"/join 3 ":                             api.ErrForm,
		"/join 3 x":                            api.ErrForm,
		"/join 3\n":                            api.ErrForm,
		"/join 1_0":                            api.ErrForm,
		"/join 1048577":                        api.ErrArg,
		"/join 1048577x":                       api.ErrArg, // the number is ahead of what is left
		"/join 9999999999":                     api.ErrArg,
		"/join 10000000000":                    api.ErrArg,
		"/join 4294967297":                     api.ErrArg, // modulo 2^32 it would be 1
		"/delete 1":                            api.ErrForm,
		"/delete 1 ":                           api.ErrForm,
		"/delete 1 0":                          api.ErrForm,
		"/delete 1x2":                          api.ErrForm,
		"/delete 1 2 ":                         api.ErrForm,
		"/delete 1 2 3":                        api.ErrForm,
		"/delete 1 1073741825":                 api.ErrArg,
		"/delete 1048577 0":                    api.ErrArg,
		"/delete 0 1073741825":                 api.ErrForm,
		"/fetch 1 18446744073709551617":        api.ErrArg, // modulo 2^64 it would be 1
		"/post 3":                              api.ErrForm,
		"/post 3 ":                             api.ErrForm,
		"/post 3\thi":                          api.ErrForm,
		"/post 3hi":                            api.ErrForm,
		"/post hi":                             api.ErrForm,
		"/post 3 \n":                           api.ErrForm,
		"/post 3 \xff":                         api.ErrForm,
		"/post 3 " + long:                      api.ErrFull,
		"/post 3 \n" + long:                    api.ErrFull, // how long it is, is ahead of what it is
		"/post 3\t" + long:                     api.ErrForm,
		"/post 03 " + long:                     api.ErrForm,
		"/post 1048577 " + long:                api.ErrArg,
		"/edit 1 2":                            api.ErrForm,
		"/edit 1 2 ":                           api.ErrForm,
		"/edit 1 hi":                           api.ErrForm,
		"/edit 1 02 hi":                        api.ErrForm,
		"/edit 1 1073741825 x":                 api.ErrArg,
		"/edit 1 2 " + long:                    api.ErrFull,
		"/edit 1 0 " + long:                    api.ErrForm,
		"/post " + strings.Repeat("9", 100000): api.ErrArg,
	} {
		if c, e := Parse(line); c != (api.Cmd{}) || e != want {
			t.Errorf("%q: %v, error %d, want %d", line, c, e, want)
		}
	}
}

func TestParseOfPieces(t *testing.T) { // P14.2, P1, R2, R4
	for _, line := range lines() {
		checkParse(t, line)
	}
}

func TestParseOfTexts(t *testing.T) { // P14.2
	for _, s := range slices.Concat(goodTexts(), badTexts(), longTexts()) {
		for _, ahead := range []string{"", "/", "/post ", "/post 3", "/post 3 ", "/edit 1 2 ", "/join 3 ", "/delete 1 2 "} {
			checkParse(t, ahead+s)
		}
	}
}

func TestParseOfNumbers(t *testing.T) { // P14.2: as many digits as one likes
	for size := 1; size <= 40; size++ {
		for _, digit := range "0123456789" {
			for _, first := range "0123456789" {
				n := string(first) + strings.Repeat(string(digit), size-1)
				for _, line := range []string{"/join " + n, "/fetch 1 " + n, "/edit " + n + " 1 x", "/edit 1 " + n + " x"} {
					checkParse(t, line)
				}
			}
		}
	}
	for _, around := range []int{mostChannel, mostNumber, 1 << 32, 9999999999, 1 << 56} {
		for n := around - 3; n <= around+3; n++ {
			checkParse(t, "/leave "+strconv.Itoa(n))
			checkParse(t, "/delete 1 "+strconv.Itoa(n))
		}
	}
}

func TestParseOfChanged(t *testing.T) { // P14.2: lines with a byte more, less, or another one, at every place
	for _, line := range fewLines() {
		for at := range len(line) + 1 {
			checkParse(t, line[:at])
			checkParse(t, line[at:])
			for b := range 256 {
				checkParse(t, line[:at]+string([]byte{byte(b)})+line[at:])
				if at < len(line) {
					checkParse(t, line[:at]+string([]byte{byte(b)})+line[at+1:])
				}
			}
			if at < len(line) {
				checkParse(t, line[:at]+line[at+1:])
			}
		}
	}
}

func TestShowExamples(t *testing.T) { // P14.3
	for _, x := range []struct {
		c    api.Cmd
		want string
	}{
		{api.Cmd{Kind: open, Channel: 1}, "/open 1"},
		{api.Cmd{Kind: join, Channel: mostChannel}, "/join 1048576"},
		{api.Cmd{Kind: leave, Channel: 20}, "/leave 20"},
		{api.Cmd{Kind: post, Channel: 3, Text: "hello you"}, "/post 3 hello you"},
		{api.Cmd{Kind: edit, Channel: 1, N: mostNumber, Text: " "}, "/edit 1 1073741824  "},
		{api.Cmd{Kind: remove, Channel: 1, N: 2}, "/delete 1 2"},
		{api.Cmd{Kind: fetch, Channel: 12, N: 1}, "/fetch 12 1"},
		{api.Cmd{User: -5, Seq: 1 << 60, Kind: open, Channel: 1, N: -1, Text: "\n"}, "/open 1"}, // with what it does not need
		{api.Cmd{User: 7, Seq: 1, Kind: post, Channel: 1, N: 5, Text: "x"}, "/post 1 x"},
		{api.Cmd{Kind: fetch, Channel: 1, N: 1, Text: strings.Repeat("x", 65)}, "/fetch 1 1"},
	} {
		if s, e := Show(x.c); s != x.want || e != api.OK {
			t.Errorf("%v: %q, error %d, want %q", x.c, s, e, x.want)
		}
	}
}

func TestShowRefuses(t *testing.T) { // P14.3, R4
	for _, c := range []api.Cmd{
		{},
		{Channel: 1},
		{Kind: nop, Channel: 1, N: 1, Text: "x"},
		{Kind: -1, Channel: 1, N: 1, Text: "x"},
		{Kind: kinds, Channel: 1, N: 1, Text: "x"},
		{Kind: math.MaxInt, Channel: 1, N: 1, Text: "x"},
		{Kind: math.MinInt, Channel: 1, N: 1, Text: "x"},
		{Kind: open},
		{Kind: open, Channel: -1},
		{Kind: leave, Channel: mostChannel + 1},
		{Kind: fetch, Channel: 1},
		{Kind: fetch, Channel: 1, N: -1},
		{Kind: remove, Channel: 1, N: mostNumber + 1},
		{Kind: edit, Channel: 1, Text: "x"},
		{Kind: edit, Channel: 1, N: 1},
		{Kind: post, Channel: 1},
		{Kind: post, Channel: 1, Text: "\n"},
		{Kind: post, Channel: 1, Text: "\xff"},
		{Kind: post, Channel: 1, Text: strings.Repeat("x", 65)},
	} {
		if s, e := Show(c); s != "" || e != api.ErrArg {
			t.Errorf("%v: %q, error %d", c, s, e)
		}
	}
}

func TestShow(t *testing.T) { // P14.3, P1, R4
	for _, c := range commands() {
		want, e := plainShow(c)
		if s, f := Show(c); s != want || f != e {
			t.Fatalf("%v: %q, error %d, want %q, %d", c, s, f, want, e)
		}
	}
}

func TestShownIsParsed(t *testing.T) { // P14.4: without what it does not need
	shown := 0
	for _, c := range commands() {
		line, e := Show(c)
		if e != api.OK {
			continue
		}
		shown++
		if back, f := Parse(line); back != plain(c) || f != api.OK {
			t.Fatalf("%v: shown as %q, parsed as %v, error %d", c, line, back, f)
		}
	}
	if shown < 1000 {
		t.Error("too few were shown:", shown)
	}
}

func TestParsedIsShown(t *testing.T) { // P14.4: as the same line
	parsed := 0
	for _, line := range slices.Concat(lines(), fewLines()) {
		c, e := Parse(line)
		if e != api.OK {
			continue
		}
		parsed++
		if back, f := Show(c); back != line || f != api.OK {
			t.Fatalf("%q: parsed as %v, shown as %q, error %d", line, c, back, f)
		}
	}
	if parsed < 100 {
		t.Error("too few were parsed:", parsed)
	}
}

func TestAnything(t *testing.T) { // P1, R5: any bytes at all, twice, with others in between
	for size := range 300 {
		b := noise(size)
		for i := range b {
			if size%2 == 0 {
				b[i] = "/ 0123456789postedi\xff"[int(b[i])%20]
			}
		}
		for _, line := range []string{string(b), "/" + string(b), "/post 3 " + string(b), "/edit " + string(b)} {
			c, e := Parse(line)
			Parse("/join 99999999999")
			Parse("/edit 5 6 seven")
			if d, f := Parse(line); d != c || f != e {
				t.Fatalf("%q: %v, error %d, then %v, %d", line, c, e, d, f)
			}
			checkParse(t, line)
			if May(line) != plainMay(line) {
				t.Fatalf("%q: %t", line, May(line))
			}
		}
	}
}

func TestSharesNothing(t *testing.T) { // R3: a line's bytes may be used anew by whoever asked
	b := []byte("/edit 3 4 hello")
	c, e := Parse(unsafe.String(&b[0], len(b)))
	if string(b) != "/edit 3 4 hello" {
		t.Errorf("the line is %q now", b)
	}
	clear(b)
	if c != (api.Cmd{Kind: edit, Channel: 3, N: 4, Text: "hello"}) || e != api.OK {
		t.Error(c, e)
	}
	b = []byte("hello")
	line, e := Show(api.Cmd{Kind: post, Channel: 3, Text: unsafe.String(&b[0], len(b))})
	if clear(b); line != "/post 3 hello" || e != api.OK {
		t.Error(line, e)
	}
}
