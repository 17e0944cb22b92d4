package score

import (
	"math"
	"math/big"
	"math/bits"
	"slices"
	"testing"
)

// The bits are written out here, so that wrong ones of the package are seen.
const (
	none     = 0x7ff8000000000000 // the one that is answered for what is not a number
	infinity = 0x7ff0000000000000
	minus    = 1 << 63
	most     = 1 << 53
	far      = 1 << 62
)

// numbers are whole ones at every edge, the same ones below 0 among them.
func numbers() []int {
	l := []int{0, 1, 2, 3, 5, 7, 10, 100, 12345, 999999937, most + 3, math.MaxInt, math.MinInt, math.MinInt + 1, math.MinInt + 2}
	for _, shift := range []int{8, 31, 32, 52, 53, 54, 55, 61, 62} {
		l = append(l, 1<<shift-1, 1<<shift, 1<<shift+1)
	}
	for _, n := range slices.Clone(l) {
		l = append(l, -n)
	}
	return l
}

// samples are bits at every edge, with both signs, those among them that are not a number.
func samples() []uint64 {
	l := []uint64{0, 1, 2, 1<<52 - 1, 1 << 52, 1<<52 + 1, infinity - 1, infinity, infinity + 1, none - 1, none, none + 1, minus - 1}
	for _, exponent := range []uint64{1, 2, 1021, 1022, 1023, 1024, 1023 + 51, 1023 + 52, 1023 + 53, 1023 + 61, 1023 + 62, 1023 + 63, 2045, 2046} {
		for _, fraction := range []uint64{0, 1, 1 << 50, 1 << 51, 1<<51 + 1, 1<<52 - 1} {
			l = append(l, exponent<<52|fraction)
		}
	}
	for _, x := range slices.Clone(l) {
		l = append(l, x|minus)
	}
	return l
}

// noise is so many bits of no plain pattern, the same ones each time; every fourth is of a small whole number, so that many are just as great.
func noise(size int) []uint64 {
	l := make([]uint64, size)
	x := uint64(size) + 1
	for i := range l {
		x = x*6364136223846793005 + 1442695040888963407
		l[i] = x>>32 | x<<32
		switch i % 4 {
		case 0:
			l[i] = plainOf(int(l[i]%5) - 2)
		case 1:
			l[i] |= infinity
		}
	}
	return l
}

func plainNone(x uint64) bool {
	return x>>52&2047 == 2047 && x<<12 != 0
}

func counted(n int) int {
	switch {
	case n > most:
		return most
	case n < -most:
		return -most
	}
	return n
}

// plainOf lays the bits of a number together by hand.
func plainOf(n int) uint64 {
	n = counted(n)
	if n == 0 {
		return 0
	}
	var sign uint64
	if n < 0 {
		sign, n = minus, -n
	}
	length := bits.Len(uint(n))
	fraction := uint64(n) << (64 - length) << 1 >> 12 // the highest bit is told by the exponent
	return sign | uint64(1023+length-1)<<52 | fraction
}

// plainQuotient is a / b as a fraction of whole numbers, brought to the nearest bits by math/big.
func plainQuotient(a, b int) uint64 {
	a, b = counted(a), counted(b)
	var sign uint64
	if (a < 0) != (b < 0) {
		sign = minus
	}
	switch {
	case a == 0 && b == 0:
		return none
	case b == 0:
		return sign | infinity
	case a == 0:
		return sign
	}
	f, _ := big.NewRat(int64(a), int64(b)).Float64()
	return math.Float64bits(f)
}

// plainFloor works in whole numbers without end.
func plainFloor(x uint64) (int, bool) {
	if x&infinity == infinity {
		return 0, false
	}
	r := new(big.Rat).SetFloat64(math.Float64frombits(x))
	edge := big.NewRat(far, 1)
	if new(big.Rat).Abs(r).Cmp(edge) >= 0 {
		return 0, false
	}
	return int(new(big.Int).Div(r.Num(), r.Denom()).Int64()), true
}

// rank is a whole number that is the greater the greater the bits are: bits without their sign rise as what they are does.
func rank(x uint64) int {
	switch {
	case plainNone(x):
		return math.MaxInt
	case x >= minus:
		return -int(x-minus) - 1
	}
	return int(x)
}

func plainCmp(x, y uint64) int {
	switch {
	case rank(x) < rank(y):
		return -1
	case rank(x) > rank(y):
		return 1
	}
	return 0
}

// plainSort lays each behind the last one that is not greater.
func plainSort(l []uint64) []uint64 {
	var out []uint64
	for _, x := range l {
		k := len(out)
		for k > 0 && rank(out[k-1]) > rank(x) {
			k--
		}
		out = slices.Insert(out, k, x)
	}
	return out
}

func TestQuotientExamples(t *testing.T) { // P13.1
	for _, x := range []struct {
		a, b int
		want uint64
	}{
		{1, 3, 0x3fd5555555555555},
		{-1, 3, 0xbfd5555555555555},
		{1, -3, 0xbfd5555555555555},
		{-1, -3, 0x3fd5555555555555},
		{2, 3, 0x3fe5555555555555},
		{1, 10, 0x3fb999999999999a}, // rounded up
		{1, 1, 0x3ff0000000000000},
		{6, 3, 0x4000000000000000},
		{-7, 2, 0xc00c000000000000},
		{0, 5, 0},
		{0, -5, minus},
		{0, math.MaxInt, 0},
		{0, math.MinInt, minus},
		{0, 0, none},
		{1, 0, infinity},
		{-1, 0, minus | infinity},
		{math.MaxInt, 0, infinity},
		{math.MinInt, 0, minus | infinity},
		{1, most, 0x3ca0000000000000},
		{-1, most, 0xbca0000000000000},
		{most - 1, most, 0x3fefffffffffffff},
		{most, most - 1, 0x3ff0000000000001}, // a bit more than 1 + 2^-53
		{most - 1, 1, 0x433fffffffffffff},
	} {
		if q := Quotient(x.a, x.b); q != x.want {
			t.Errorf("%d / %d: %x, want %x", x.a, x.b, q, x.want)
		}
	}
}

func TestQuotientOfAll(t *testing.T) { // P13.1: the nearest, the signs, what is too far
	small := make([]int, 0, 401)
	for n := -200; n <= 200; n++ {
		small = append(small, n)
	}
	for _, l := range [][]int{small, numbers()} {
		for _, a := range l {
			for _, b := range l {
				if q, want := Quotient(a, b), plainQuotient(a, b); q != want {
					t.Fatalf("%d / %d: %x, want %x", a, b, q, want)
				}
			}
		}
	}
}

func TestQuotientIsNearest(t *testing.T) { // P13.1: neither of the two beside it is nearer, nor as near
	for _, a := range numbers() {
		for _, b := range numbers() {
			if a <= 0 || b <= 0 {
				continue
			}
			q := Quotient(a, b)
			away := func(x uint64) *big.Rat {
				r := new(big.Rat).SetFloat64(math.Float64frombits(x))
				return r.Abs(r.Sub(r, big.NewRat(int64(counted(a)), int64(counted(b)))))
			}
			if away(q).Cmp(away(q-1)) >= 0 || away(q).Cmp(away(q+1)) >= 0 {
				t.Errorf("%d / %d: %x is not the nearest", a, b, q)
			}
		}
	}
}

func TestTooFarCounts(t *testing.T) { // P13.1: as 2^53, or as -2^53
	for _, n := range []int{most + 1, most + 2, most + 3, most + 4, 1 << 54, 1 << 60, math.MaxInt - 1, math.MaxInt} {
		if Of(n) != 0x4340000000000000 || Of(-n) != 0xc340000000000000 {
			t.Errorf("Of(%d): %x, of it below 0: %x", n, Of(n), Of(-n))
		}
		for _, k := range []int{-most, -3, 0, 1, 3, most - 1, most} {
			if Quotient(n, k) != Quotient(most, k) || Quotient(k, n) != Quotient(k, most) {
				t.Errorf("%d does not count as 2^53 with %d", n, k)
			}
			if Quotient(-n, k) != Quotient(-most, k) || Quotient(k, -n) != Quotient(k, -most) {
				t.Errorf("%d does not count as -2^53 with %d", -n, k)
			}
		}
	}
	if Of(math.MinInt) != 0xc340000000000000 || Quotient(math.MinInt, math.MaxInt) != Of(-1) || Quotient(math.MinInt, math.MinInt) != Of(1) {
		t.Error("the least int does not count as -2^53")
	}
}

func TestOf(t *testing.T) { // P13.1
	for n, want := range map[int]uint64{
		0: 0, 1: 0x3ff0000000000000, -1: 0xbff0000000000000, 2: 0x4000000000000000, 3: 0x4008000000000000, -3: 0xc008000000000000,
		most - 1: 0x433fffffffffffff, most: 0x4340000000000000, 1 - most: 0xc33fffffffffffff, -most: 0xc340000000000000,
	} {
		if x := Of(n); x != want {
			t.Errorf("Of(%d): %x, want %x", n, x, want)
		}
	}
	for _, n := range numbers() {
		if x := Of(n); x != plainOf(n) || x != Quotient(n, 1) {
			t.Errorf("Of(%d): %x, want %x; divided by 1: %x", n, x, plainOf(n), Quotient(n, 1))
		}
	}
}

func TestFloorExamples(t *testing.T) { // P13.2
	for _, x := range []struct {
		x    uint64
		want int
	}{
		{0, 0},
		{minus, 0},
		{1, 0},
		{minus | 1, -1},
		{Quotient(7, 2), 3},
		{Quotient(-7, 2), -4},
		{Quotient(1, 3), 0},
		{Quotient(-1, 3), -1},
		{Of(3), 3},
		{Of(-3), -3},
		{0x3fefffffffffffff, 0},
		{0xbfefffffffffffff, -1},
		{0x432fffffffffffff, 1<<52 - 1}, // half a one above it
		{0xc32fffffffffffff, -1 << 52},
		{0x43cfffffffffffff, far - 512},
		{0xc3cfffffffffffff, 512 - far},
	} {
		if n, is := Floor(x.x); n != x.want || !is {
			t.Errorf("Floor(%x): %d, %v, want %d", x.x, n, is, x.want)
		}
	}
}

func TestFloorOfNone(t *testing.T) { // P13.2
	for _, x := range []uint64{
		0x43d0000000000000, 0xc3d0000000000000, // 2^62, on either side
		0x43d0000000000001, 0xc3d0000000000001,
		0x43e0000000000000, 0xc3e0000000000000, // 2^63: the least int is one too far as well
		infinity - 1, minus | infinity - 1,
		infinity, minus | infinity,
		infinity + 1, minus | infinity + 1,
		none, minus | none, none + 1, minus - 1, math.MaxUint64,
	} {
		if n, is := Floor(x); n != 0 || is {
			t.Errorf("Floor(%x): %d, %v", x, n, is)
		}
	}
}

func TestFloorOfAll(t *testing.T) { // P13.2
	for _, x := range append(samples(), noise(4000)...) {
		n, is := Floor(x)
		want, can := plainFloor(x)
		if n != want || is != can {
			t.Errorf("Floor(%x): %d, %v, want %d, %v", x, n, is, want, can)
		}
	}
	for _, n := range numbers() {
		if k, is := Floor(Of(n)); k != counted(n) || !is {
			t.Errorf("Floor(Of(%d)): %d, %v", n, k, is)
		}
	}
	for a := -100; a <= 100; a++ {
		for b := 1; b <= 20; b++ {
			want := a / b
			if a%b < 0 {
				want--
			}
			if n, is := Floor(Quotient(a, b)); n != want || !is {
				t.Errorf("Floor of %d / %d: %d, %v, want %d", a, b, n, is, want)
			}
		}
	}
}

func TestCmpInOrder(t *testing.T) { // P13.3: each line is just as great, and less than those below it
	rising := [][]uint64{
		{minus | infinity},
		{minus | infinity - 1},
		{Of(-3)},
		{Quotient(-7, 3)},
		{Of(-2), Quotient(-4, 2)},
		{Quotient(-1, 3)},
		{minus | 1<<52},
		{minus | 1<<52 - 1},
		{minus | 1},
		{minus, Quotient(0, -5)},
		{0, Quotient(0, 5), Of(0)},
		{1},
		{1<<52 - 1},
		{1 << 52},
		{Quotient(1, 3)},
		{Of(2), Quotient(4, 2)},
		{Quotient(7, 3)},
		{Of(3)},
		{infinity - 1},
		{infinity, Quotient(1, 0)},
		{none, minus | none, infinity + 1, minus | infinity + 1, none - 1, none + 1, minus - 1, math.MaxUint64, Quotient(0, 0)},
	}
	for i, xs := range rising {
		for j, ys := range rising {
			want := min(max(i-j, -1), 1)
			for _, x := range xs {
				for _, y := range ys {
					if c := Cmp(x, y); c != want {
						t.Errorf("Cmp(%x, %x): %d, want %d", x, y, c, want)
					}
				}
			}
		}
	}
}

func TestCmpOfAll(t *testing.T) { // P13.3
	l := append(samples(), noise(300)...)
	for _, x := range l {
		for _, y := range l {
			if c, want := Cmp(x, y), plainCmp(x, y); c != want {
				t.Fatalf("Cmp(%x, %x): %d, want %d", x, y, c, want)
			}
		}
	}
}

func TestSortExamples(t *testing.T) { // P13.3
	for _, x := range []struct{ l, want []uint64 }{
		{nil, nil},
		{[]uint64{}, nil},
		{[]uint64{none}, []uint64{none}},
		{[]uint64{0, minus}, []uint64{minus, 0}},
		{[]uint64{0, minus, 0, minus}, []uint64{minus, minus, 0, 0}},
		{[]uint64{Of(2), Of(1), Of(2)}, []uint64{Of(1), Of(2), Of(2)}},
		{[]uint64{none + 1, none, minus | none}, []uint64{none + 1, none, minus | none}},
		{[]uint64{minus | none, Of(1), none, infinity}, []uint64{Of(1), infinity, minus | none, none}},
		{
			[]uint64{minus | none | 1, infinity, Of(2), 0, minus, Of(-2), minus | infinity, none},
			[]uint64{minus | infinity, Of(-2), minus, 0, Of(2), infinity, minus | none | 1, none},
		},
	} {
		if s := Sort(x.l); !slices.Equal(s, x.want) {
			t.Errorf("Sort(%x): %x, want %x", x.l, s, x.want)
		}
	}
}

func TestSortOfLong(t *testing.T) { // P13.3: just as great ones stay in order, of however many
	falling := samples()
	slices.SortFunc(falling, func(x, y uint64) int { return plainCmp(y, x) })
	lists := [][]uint64{samples(), falling}
	for _, size := range []int{2, 3, 12, 13, 20, 21, 40, 41, 100, 1000} {
		lists = append(lists, noise(size))
	}
	for _, l := range lists {
		s := Sort(l)
		if !slices.Equal(s, plainSort(l)) {
			t.Errorf("%d bits are not in order", len(l))
		}
		if !slices.Equal(Sort(s), s) {
			t.Errorf("%d bits change when sorted again", len(l))
		}
	}
	nones := make([]uint64, 500) // all just as great, none like another
	for i := range nones {
		nones[i] = infinity | uint64(i*7919%500+1) | uint64(i%2)<<63
	}
	if s := Sort(nones); !slices.Equal(s, nones) {
		t.Error("what is not a number has changed its order")
	}
}

func TestSortKeepsNothing(t *testing.T) { // P13.3, R3
	l := []uint64{Of(3), none, Of(1), minus}
	was := slices.Clone(l)
	s := Sort(l)
	want := slices.Clone(s)
	if !slices.Equal(l, was) {
		t.Errorf("what was handed in is %x, was %x", l, was)
	}
	clear(l)
	if !slices.Equal(s, want) {
		t.Error("an answer changes with what was handed in")
	}
	copy(l, was)
	clear(s)
	if !slices.Equal(l, was) {
		t.Error("what was handed in changes with an answer")
	}
	part := []uint64{Of(2), Of(1), Of(9), Of(8)}
	if _ = append(Sort(part[:2]), none); !slices.Equal(part, []uint64{Of(2), Of(1), Of(9), Of(8)}) {
		t.Error("what stands behind a list has changed")
	}
}

func TestQuotientsRise(t *testing.T) { // P13.4
	rising := numbers()
	slices.Sort(rising)
	for i, n := range rising {
		for _, k := range rising[i:] {
			for _, by := range rising {
				if by > 0 && Cmp(Quotient(n, by), Quotient(k, by)) > 0 {
					t.Errorf("%d / %d is more than %d / %d", n, by, k, by)
				}
				if by > 0 && n > 0 && Cmp(Quotient(by, n), Quotient(by, k)) < 0 {
					t.Errorf("%d / %d is less than %d / %d", by, n, by, k)
				}
			}
		}
	}
	for b := 1; b <= 50; b++ { // near ones, which no rounding makes the same
		for a := -50; a <= 50; a++ {
			if Cmp(Quotient(a, b), Quotient(a+1, b)) != -1 {
				t.Errorf("%d / %d is not less than %d / %d", a, b, a+1, b)
			}
			if a > 0 && Cmp(Quotient(a, b), Quotient(a, b+1)) != 1 {
				t.Errorf("%d / %d is not more than %d / %d", a, b, a, b+1)
			}
		}
	}
}

func TestOrderIsTotal(t *testing.T) { // P13.4
	l := append(samples(), noise(8)...)
	for _, x := range l {
		if Cmp(x, x) != 0 {
			t.Errorf("%x is not as great as itself", x)
		}
		for _, y := range l {
			if Cmp(x, y) != -Cmp(y, x) {
				t.Errorf("%x and %x: %d, and %d the other way round", x, y, Cmp(x, y), Cmp(y, x))
			}
			if Cmp(x, y) > 0 {
				continue
			}
			for _, z := range l {
				if Cmp(y, z) <= 0 && (Cmp(x, z) > 0 || Cmp(x, z) == 0 && (Cmp(x, y) != 0 || Cmp(y, z) != 0)) {
					t.Fatalf("%x, %x, %x do not rise as each two of them do", x, y, z)
				}
			}
		}
	}
}

func TestSameAnswers(t *testing.T) { // P1, R5: nothing is kept, and none panics
	l := append(samples(), noise(50)...)
	first := Sort(l)
	for _, a := range numbers() {
		for _, b := range numbers() {
			if Quotient(a, b) != Quotient(a, b) || Of(a) != Of(a) {
				t.Errorf("%d and %d are answered in two ways", a, b)
			}
		}
	}
	for _, x := range l {
		n, is := Floor(x)
		if k, again := Floor(x); k != n || again != is {
			t.Errorf("Floor(%x) is answered in two ways", x)
		}
	}
	if !slices.Equal(Sort(l), first) {
		t.Error("Sort is answered in two ways")
	}
}
