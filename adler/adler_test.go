package adler

import (
	"bytes"
	"hash/adler32"
	"math"
	"math/big"
	"testing"
)

// m is written out here, so that a wrong modulus of the package is seen.
const m = 65521

// noise is so many bytes of no plain pattern, the same ones each time.
func noise(size int) []byte {
	b := make([]byte, size)
	x := uint64(size) + 1
	for i := range b {
		x = x*6364136223846793005 + 1442695040888963407
		b[i] = byte(x >> 33)
	}
	return b
}

// samples are bytes of many sizes, those around M among them.
func samples() [][]byte {
	l := [][]byte{nil, {}, {0}, {1}, {255}, {0, 0}, []byte("Wikipedia"), bytes.Repeat([]byte{0}, 300)}
	for _, size := range []int{2, 3, 7, 64, 256, 257, 258, 1024, 5552, 5553, m - 1, m, m + 1, 2*m + 3} {
		l = append(l, noise(size), bytes.Repeat([]byte{255}, size))
	}
	return l
}

// sums are numbers with parts at every edge, those that may be no sum among them.
func sums() []uint32 {
	halves := []uint32{0, 1, 2, 254, 255, 256, 32767, 32768, m - 2, m - 1, m, m + 1, 65535}
	var l []uint32
	for _, high := range halves {
		for _, low := range halves {
			l = append(l, high<<16|low)
		}
	}
	return l
}

// counts are numbers of bytes, also wrong ones and those whose products would wrap round.
func counts() []int {
	return []int{0, 1, 2, 8, 255, m - 2, m - 1, m, m + 1, 2*m - 1, 1 << 31, 1 << 47, 1 << 48, math.MaxInt/255 + 1,
		math.MaxInt - 1, math.MaxInt, -1, -2, -m, math.MinInt + 1, math.MinInt}
}

// rest is a number of any size modulo M, not below 0.
func rest(n *big.Int) uint32 {
	return uint32(new(big.Int).Mod(n, big.NewInt(m)).Uint64())
}

func number(n int) *big.Int { return big.NewInt(int64(n)) }

func whole(low, high *big.Int) uint32 { return rest(high)<<16 | rest(low) }

// joined is P2.2's formula, in numbers that cannot wrap round.
func joined(a, b uint32, size int) uint32 {
	x, y, u, v := int(a&65535), int(a>>16), int(b&65535), int(b>>16)
	product := new(big.Int).Mul(number(max(size, 0)), number(x-1))
	return whole(number(x+u-1), product.Add(product, number(y+v)))
}

// dropped is P2.3's formula, in numbers that cannot wrap round.
func dropped(sum uint32, first byte, left int) uint32 {
	x, y, f := int(sum&65535), int(sum>>16), int(first)
	product := number(max(left, 0))
	product.Add(product, number(1)).Mul(product, number(f))
	return whole(number(x-f), product.Sub(number(y-1), product))
}

func TestSumExamples(t *testing.T) { // P2.1
	for _, x := range []struct {
		b    []byte
		want uint32
	}{
		{nil, 1},
		{[]byte{}, 1},
		{[]byte{0}, 1<<16 | 1},
		{[]byte{0, 0, 0}, 3<<16 | 1},
		{[]byte{1}, 2<<16 | 2},
		{[]byte{255}, 256<<16 | 256},
		{[]byte("a"), 0x00620062},
		{[]byte("abc"), 0x024d0127},
		{[]byte("Wikipedia"), 0x11e60398},
	} {
		if s := Sum(x.b); s != x.want {
			t.Errorf("Sum(%v): %x, want %x", x.b, s, x.want)
		}
	}
}

func TestSumOfLong(t *testing.T) { // P2.1
	for _, b := range samples() {
		if s, want := Sum(b), adler32.Checksum(b); s != want || !May(s) {
			t.Errorf("Sum of %d bytes: %x, want %x; may be: %v", len(b), s, want, May(s))
		}
	}
	zeros := make([]byte, m) // y comes to M itself, and to 0 again
	if s := Sum(zeros[1:]); s != (m-1)<<16|1 {
		t.Errorf("Sum of M - 1 noughts: %x", s)
	}
	if s := Sum(zeros); s != 1 {
		t.Errorf("Sum of M noughts: %x", s)
	}
	reach := append(bytes.Repeat([]byte{255}, 256), 240) // x comes to M itself
	if s := Sum(reach); s&65535 != 0 {
		t.Errorf("Sum of bytes that come to M: %x", s)
	}
}

func TestMay(t *testing.T) { // P2.1
	for _, s := range sums() {
		if got, want := May(s), s&65535 < m && s>>16 < m; got != want {
			t.Errorf("May(%x): %v", s, got)
		}
	}
	for h := range uint32(1 << 16) {
		if May(h) != (h < m) || May(h<<16) != (h < m) || May(h<<16|h) != (h < m) {
			t.Fatalf("May of the half %d", h)
		}
	}
}

func TestJoinOfPieces(t *testing.T) { // P2.2
	for _, b := range samples() {
		for _, k := range []int{0, 1, 2, 100, len(b) / 2, len(b) - 1, len(b)} {
			if k < 0 || k > len(b) {
				continue
			}
			if s := Join(Sum(b[:k]), Sum(b[k:]), len(b)-k); s != Sum(b) {
				t.Errorf("%d bytes joined behind %d: %x, want %x", len(b), k, s, Sum(b))
			}
		}
	}
}

func TestJoinOfMany(t *testing.T) { // P2.2: more than two pieces, in whatever order they are joined
	b := noise(1000)
	left, right := Sum(nil), Sum(nil)
	for k := 0; k < len(b); k += 50 {
		left = Join(left, Sum(b[k:k+50]), 50)
		end := len(b) - k
		right = Join(Sum(b[end-50:end]), right, k)
	}
	if left != Sum(b) || right != Sum(b) {
		t.Errorf("%x %x, want %x", left, right, Sum(b))
	}
}

func TestJoinOfAnything(t *testing.T) { // P2.2, P1: parts that may be no sum's, sizes that wrap round or are below 0
	for _, a := range sums() {
		for _, b := range sums() {
			for _, size := range counts() {
				if s, want := Join(a, b, size), joined(a, b, size); s != want || !May(s) {
					t.Fatalf("Join(%x, %x, %d): %x, want %x", a, b, size, s, want)
				}
			}
		}
	}
}

func TestDropFirst(t *testing.T) { // P2.3
	for _, b := range samples() {
		if len(b) == 0 {
			continue
		}
		if s := Drop(Sum(b), b[0], len(b)-1); s != Sum(b[1:]) {
			t.Errorf("the first of %d bytes dropped: %x, want %x", len(b), s, Sum(b[1:]))
		}
	}
	b := noise(700)
	s := Sum(b)
	for i, c := range b {
		s = Drop(s, c, len(b)-i-1)
		if s != Sum(b[i+1:]) {
			t.Fatalf("%d dropped: %x, want %x", i+1, s, Sum(b[i+1:]))
		}
	}
}

func TestDropOfAnything(t *testing.T) { // P2.3, P1: parts that may be no sum's, counts that wrap round or are below 0
	for _, sum := range sums() {
		for first := range 256 {
			for _, left := range counts() {
				if s, want := Drop(sum, byte(first), left), dropped(sum, byte(first), left); s != want || !May(s) {
					t.Fatalf("Drop(%x, %d, %d): %x, want %x", sum, first, left, s, want)
				}
			}
		}
	}
}

func TestBelowNought(t *testing.T) { // P2.2, P2.3
	for _, n := range []int{-1, -5, -m, -m - 1, math.MinInt} {
		if s := Join(0x11e60398, 0x024d0127, n); s != Join(0x11e60398, 0x024d0127, 0) {
			t.Errorf("Join of the size %d: %x", n, s)
		}
		if s := Drop(0x11e60398, 'W', n); s != Drop(0x11e60398, 'W', 0) {
			t.Errorf("Drop with %d left: %x", n, s)
		}
	}
}

// places are some of the numbers below size, the first and the last ones among them.
func places(size int) []int {
	var l []int
	for i := range size {
		if i < 3 || i >= size-3 || i%(size/5+1) == 0 {
			l = append(l, i)
		}
	}
	return l
}

func TestOtherByte(t *testing.T) { // P2.4
	for _, b := range samples() {
		want := Sum(b)
		for _, i := range places(len(b)) {
			was := b[i]
			others := []byte{0, 1, 128, 255, was + 1, was - 1, ^was}
			if len(b) < 100 {
				others = make([]byte, 256)
				for c := range others {
					others[c] = byte(c)
				}
			}
			for _, c := range others {
				b[i] = c
				if c != was && Sum(b) == want {
					t.Errorf("%d bytes, at %d %d for %d: the same sum", len(b), i, c, was)
				}
			}
			b[i] = was
		}
	}
}

func TestChangedPlaces(t *testing.T) { // P2.4
	for _, b := range samples() {
		want := Sum(b)
		for _, i := range places(len(b) - 1) {
			same := b[i] == b[i+1]
			b[i], b[i+1] = b[i+1], b[i]
			if (Sum(b) == want) != same {
				t.Errorf("%d bytes, %d and its neighbour changed: the same sum", len(b), i)
			}
			b[i], b[i+1] = b[i+1], b[i]
		}
	}
	for a := range 256 {
		for b := range 256 {
			if s := Sum([]byte{byte(a), byte(b)}); (s == Sum([]byte{byte(b), byte(a)})) != (a == b) {
				t.Fatalf("%d and %d", a, b)
			}
		}
	}
}

func TestNothingIsKept(t *testing.T) { // R3, R5
	b := noise(100)
	first := Sum(b)
	Join(first, 5, 9)
	Drop(first, 5, 9)
	if !bytes.Equal(b, noise(100)) || Sum(b) != first {
		t.Error("an argument was changed, or something is kept")
	}
}
