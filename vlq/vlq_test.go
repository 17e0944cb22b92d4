package vlq

import (
	"bytes"
	"math"
	"slices"
	"testing"

	"colloquy/api"
)

// edges are the numbers around each change of length, and some between.
func edges() []int {
	l := []int{0, 1, 44, 127, 128, 129, 255, 256, 300, 16383, 16384, 1 << 31, 1<<32 + 5, api.MaxInt / 3, api.MaxInt - 1}
	for k := 1; k < 8; k++ {
		l = append(l, 1<<(7*k)-1, 1<<(7*k), 1<<(7*k)+1)
	}
	x := uint64(1)
	for range 2000 {
		x = x*6364136223846793005 + 1442695040888963407
		l = append(l, int(x>>8)>>(x%56))
	}
	slices.Sort(l)
	return slices.Compact(l)
}

// wrong are numbers that may not be.
func wrong() []int {
	return []int{-1, -128, math.MinInt, api.MaxInt, api.MaxInt + 1, math.MaxInt}
}

// bytesOf makes a number's bytes by fixed shifts, not by Put's way.
func bytesOf(n int) []byte {
	var out []byte
	for k := 7; k >= 0; k-- {
		digit := byte(n>>(7*k)) & 127
		if len(out) == 0 && digit == 0 && k > 0 {
			continue
		}
		if k > 0 {
			digit |= 128
		}
		out = append(out, digit)
	}
	return out
}

func TestPutExamples(t *testing.T) { // P1.1
	for _, x := range []struct {
		n    int
		want []byte
	}{
		{0, []byte{0}},
		{1, []byte{1}},
		{127, []byte{127}},
		{128, []byte{129, 0}},
		{300, []byte{130, 44}},
		{16383, []byte{255, 127}},
		{16384, []byte{129, 128, 0}},
		{1<<49 - 1, []byte{255, 255, 255, 255, 255, 255, 127}},
		{1 << 49, []byte{129, 128, 128, 128, 128, 128, 128, 0}},
		{1<<56 - 1, []byte{255, 255, 255, 255, 255, 255, 255, 127}},
	} {
		b, e := Put(x.n)
		if e != api.OK || !bytes.Equal(b, x.want) {
			t.Errorf("Put(%d): %v %d, want %v", x.n, b, e, x.want)
		}
		if s := Size(x.n); s != len(x.want) {
			t.Errorf("Size(%d): %d, want %d", x.n, s, len(x.want))
		}
	}
}

func TestPutEdges(t *testing.T) { // P1.1
	for _, n := range edges() {
		want := bytesOf(n)
		b, e := Put(n)
		if e != api.OK || !bytes.Equal(b, want) || Size(n) != len(want) {
			t.Errorf("%d: %v %d, size %d, want %v", n, b, e, Size(n), want)
		}
	}
}

func TestPutWrong(t *testing.T) { // P1.1, P1
	for _, n := range wrong() {
		if b, e := Put(n); len(b) != 0 || e != api.ErrArg {
			t.Errorf("Put(%d): %v %d", n, b, e)
		}
		if s := Size(n); s != 0 {
			t.Errorf("Size(%d): %d", n, s)
		}
	}
}

func TestGet(t *testing.T) { // P1.2
	full := []byte{255, 255, 255, 255, 255, 255, 255}
	for _, x := range []struct {
		b       []byte
		n, size int
		e       api.Errno
	}{
		{nil, 0, 0, api.ErrMore},
		{[]byte{}, 0, 0, api.ErrMore},
		{[]byte{0}, 0, 1, api.OK},
		{[]byte{0, 128}, 0, 1, api.OK},
		{[]byte{127, 1}, 127, 1, api.OK},
		{[]byte{128}, 0, 0, api.ErrForm},
		{[]byte{128, 0}, 0, 0, api.ErrForm},
		{[]byte{128, 1}, 0, 0, api.ErrForm},
		{[]byte{129}, 0, 0, api.ErrMore},
		{[]byte{255}, 0, 0, api.ErrMore},
		{[]byte{129, 0}, 128, 2, api.OK},
		{[]byte{130, 44, 200}, 300, 2, api.OK},
		{[]byte{129, 128}, 0, 0, api.ErrMore},
		{[]byte{129, 128, 0}, 16384, 3, api.OK},
		{full, 0, 0, api.ErrMore},
		{append(slices.Clone(full), 0), 1<<56 - 128, 8, api.OK},
		{append(slices.Clone(full), 127, 255), 1<<56 - 1, 8, api.OK},
		{append(slices.Clone(full), 128), 0, 0, api.ErrForm},
		{append(slices.Clone(full), 255), 0, 0, api.ErrForm},
		{append(slices.Clone(full), 128, 0), 0, 0, api.ErrForm},
		{[]byte{129, 128, 128, 128, 128, 128, 128, 128, 0}, 0, 0, api.ErrForm},
	} {
		n, size, e := Get(x.b)
		if n != x.n || size != x.size || e != x.e {
			t.Errorf("Get(%v): %d %d %d, want %d %d %d", x.b, n, size, e, x.n, x.size, x.e)
		}
	}
}

func TestGetPieces(t *testing.T) { // P1.2: a beginning of a number's bytes wants more
	for _, n := range edges() {
		b := bytesOf(n)
		for k := range b {
			if m, size, e := Get(b[:k]); m != 0 || size != 0 || e != api.ErrMore {
				t.Errorf("Get(%v): %d %d %d", b[:k], m, size, e)
			}
		}
	}
}

func TestPutAll(t *testing.T) { // P1.3
	for _, x := range []struct {
		l    []int
		want []byte
	}{
		{nil, nil},
		{[]int{}, nil},
		{[]int{0}, []byte{0}},
		{[]int{1, 300, 0}, []byte{1, 130, 44, 0}},
		{[]int{128, 128}, []byte{129, 0, 129, 0}},
	} {
		b, e := PutAll(x.l)
		if e != api.OK || !bytes.Equal(b, x.want) {
			t.Errorf("PutAll(%v): %v %d, want %v", x.l, b, e, x.want)
		}
	}
	var want []byte
	for _, n := range edges() {
		want = append(want, bytesOf(n)...)
	}
	if b, e := PutAll(edges()); e != api.OK || !bytes.Equal(b, want) {
		t.Errorf("PutAll(edges): %d", e)
	}
}

func TestPutAllWrong(t *testing.T) { // P1.3, P1
	for _, n := range wrong() {
		for _, l := range [][]int{{n}, {n, 1}, {1, n}, {1, n, 300}, {n, n}} {
			if b, e := PutAll(l); len(b) != 0 || e != api.ErrArg {
				t.Errorf("PutAll(%v): %v %d", l, b, e)
			}
		}
	}
}

func TestGetAll(t *testing.T) { // P1.3
	tooLong := []byte{255, 255, 255, 255, 255, 255, 255, 255}
	for _, x := range []struct {
		b    []byte
		want []int
		e    api.Errno
	}{
		{nil, nil, api.OK},
		{[]byte{}, nil, api.OK},
		{[]byte{0, 0}, []int{0, 0}, api.OK},
		{[]byte{1, 130, 44, 0}, []int{1, 300, 0}, api.OK},
		{[]byte{1, 128}, nil, api.ErrForm},
		{[]byte{1, 129}, nil, api.ErrMore},
		{[]byte{128, 129}, nil, api.ErrForm},
		{[]byte{5, 128, 3, 129}, nil, api.ErrForm},
		{append([]byte{7}, tooLong...), nil, api.ErrForm},
		{append([]byte{7}, tooLong[:7]...), nil, api.ErrMore},
	} {
		l, e := GetAll(x.b)
		if e != x.e || !slices.Equal(l, x.want) {
			t.Errorf("GetAll(%v): %v %d, want %v %d", x.b, l, e, x.want, x.e)
		}
	}
}

func TestPutThenGet(t *testing.T) { // P1.4
	for _, n := range edges() {
		b, _ := Put(n)
		for _, tail := range [][]byte{nil, {0}, {127}, {128}, {255, 255}, bytes.Repeat([]byte{200}, 9)} {
			m, size, e := Get(append(slices.Clone(b), tail...))
			if m != n || size != len(b) || e != api.OK {
				t.Errorf("%d, then %v: %d %d %d", n, tail, m, size, e)
			}
		}
	}
	b, _ := PutAll(edges())
	if l, e := GetAll(b); e != api.OK || !slices.Equal(l, edges()) {
		t.Errorf("GetAll(PutAll(edges)): %d", e)
	}
}

func TestGetThenPut(t *testing.T) { // P1.4, over short bytes, also as the last ones of a long number
	lasts := []byte{0, 1, 64, 126, 127, 128, 129, 255}
	for _, head := range [][]byte{nil, {129, 128, 128, 128, 255}} {
		for x := range 1 << 16 {
			for _, last := range lasts {
				b := append(slices.Clone(head), byte(x>>8), byte(x), last)
				n, size, e := Get(b)
				if e != api.OK {
					continue
				}
				p, e := Put(n)
				if e != api.OK || !bytes.Equal(p, b[:size]) || Size(n) != size {
					t.Fatalf("%v: %d %d, put as %v %d", b, n, size, p, e)
				}
			}
		}
	}
}

func TestBytesAreOrdered(t *testing.T) { // P1.4
	l := edges()
	for i := 1; i < len(l); i++ {
		a, _ := Put(l[i-1])
		b, _ := Put(l[i])
		if len(a) > len(b) || len(a) == len(b) && string(a) >= string(b) {
			t.Errorf("%d: %v, %d: %v", l[i-1], a, l[i], b)
		}
	}
}

func TestNothingIsShared(t *testing.T) { // R3
	b := []byte{1, 130, 44, 0, 128}
	l := []int{1, 300, 0}
	Get(b[1:])
	first, _ := GetAll(b[:4])
	made, _ := PutAll(l)
	if !bytes.Equal(b, []byte{1, 130, 44, 0, 128}) || !slices.Equal(l, []int{1, 300, 0}) {
		t.Error("an argument was changed", b, l)
	}
	clear(b)
	clear(l)
	if !slices.Equal(first, []int{1, 300, 0}) || !bytes.Equal(made, []byte{1, 130, 44, 0}) {
		t.Error("an answer was changed", first, made)
	}
	one, _ := Put(300)
	clear(one[:cap(one)])
	if two, _ := Put(300); !bytes.Equal(two, []byte{130, 44}) {
		t.Error("an answer was kept", two)
	}
}
