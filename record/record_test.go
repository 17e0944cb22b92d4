package record

import (
	"bytes"
	"encoding/binary"
	"hash/adler32"
	"math"
	"testing"

	"colloquy/api"
)

// most is written out here, so that a wrong limit of the package is seen.
const most = 1 << 20

// noise is so many bytes of no plain pattern, the same ones each time.
func noise(size int) []byte {
	b := make([]byte, size)
	x := uint64(size) + 1
	for i := range b {
		x = x*6364136223846793005 + 1442695040888963407
		b[i] = byte(x >> 33)
	}
	return b
}

// samples are records with kinds and sizes around every edge.
func samples() []api.Record {
	var l []api.Record
	for _, kind := range []int{0, 1, 5, 127, 128, 300, 16383, 16384, most - 1, most} {
		for _, size := range []int{0, 1, 2, 9, 127, 128, 129, 1023, 1024} {
			l = append(l, api.Record{Kind: kind, Body: noise(size)})
		}
	}
	return append(l, api.Record{}, api.Record{Kind: 7, Body: []byte{0}}, api.Record{Kind: 7, Body: bytes.Repeat([]byte{255}, 1024)})
}

func digits(n int) []byte {
	out := []byte{byte(n % 128)}
	for n /= 128; n > 0; n /= 128 {
		out = append([]byte{byte(n%128 + 128)}, out...)
	}
	return out
}

// laid are a record's bytes by the chapter's words, made without the layers below, with any sum.
func laid(kind, length int, sum uint32, body []byte) []byte {
	out := append(digits(kind), digits(length)...)
	return append(binary.BigEndian.AppendUint32(out, sum), body...)
}

func bytesOf(r api.Record) []byte {
	return laid(r.Kind, len(r.Body), adler32.Checksum(r.Body), r.Body)
}

func same(a, b api.Record) bool {
	return a.Kind == b.Kind && bytes.Equal(a.Body, b.Body)
}

func refused(t *testing.T, b []byte, want api.Errno) {
	t.Helper()
	r, size, e := Get(b)
	if e != want || size != 0 || r.Kind != 0 || len(r.Body) != 0 {
		t.Errorf("Get of %d bytes, %x..: %v %d %d, want the error %d and noughts", len(b), b[:min(len(b), 12)], r.Kind, size, e, want)
	}
	if len(b) == 0 {
		return
	}
	if l, e := All(b); e != want || len(l) != 0 {
		t.Errorf("All of %d bytes: %d records, %d, want the error %d", len(b), len(l), e, want)
	}
}

func TestPutExamples(t *testing.T) { // P3.1
	for _, x := range []struct {
		r    api.Record
		want []byte
	}{
		{api.Record{Kind: 5}, []byte{5, 0, 0, 0, 0, 1}},
		{api.Record{Kind: 5, Body: []byte{}}, []byte{5, 0, 0, 0, 0, 1}},
		{api.Record{Body: []byte{0}}, []byte{0, 1, 0, 1, 0, 1, 0}},
		{api.Record{Kind: 300, Body: []byte("Wikipedia")}, []byte("\x82\x2c\x09\x11\xe6\x03\x98Wikipedia")},
		{api.Record{Kind: most}, []byte{192, 128, 0, 0, 0, 0, 0, 1}},
	} {
		if b, e := Put(x.r); e != api.OK || !bytes.Equal(b, x.want) {
			t.Errorf("Put(%v): %v %d, want %v", x.r, b, e, x.want)
		}
	}
}

func TestPutOfAll(t *testing.T) { // P3.1
	for _, r := range samples() {
		if b, e := Put(r); e != api.OK || !bytes.Equal(b, bytesOf(r)) {
			t.Errorf("kind %d, %d bytes: %x %d", r.Kind, len(r.Body), b, e)
		}
	}
}

func TestPutRefuses(t *testing.T) { // P3.1, R2, R4
	for _, x := range []struct {
		kind, size int
		want       api.Errno
	}{
		{-1, 0, api.ErrArg},
		{most + 1, 0, api.ErrArg},
		{api.MaxInt, 3, api.ErrArg},
		{math.MinInt, 3, api.ErrArg},
		{math.MaxInt, 3, api.ErrArg},
		{0, 1025, api.ErrFull},
		{most, 1025, api.ErrFull},
		{3, 1 << 20, api.ErrFull},
		{-1, 1025, api.ErrArg},
		{most + 1, 1025, api.ErrArg},
	} {
		if b, e := Put(api.Record{Kind: x.kind, Body: make([]byte, x.size)}); e != x.want || len(b) != 0 {
			t.Errorf("kind %d, %d bytes: %v %d, want %d", x.kind, x.size, b, e, x.want)
		}
	}
}

func TestGet(t *testing.T) { // P3.2, P3.4: whatever follows
	for _, r := range samples() {
		b := bytesOf(r)
		for _, behind := range [][]byte{nil, {0}, {128}, {255, 255, 255}, b, noise(2000)} {
			all := append(bytes.Clone(b), behind...)
			if g, size, e := Get(all); e != api.OK || size != len(b) || !same(g, r) {
				t.Errorf("kind %d, %d bytes, then %d: %d %d %d %d", r.Kind, len(r.Body), len(behind), g.Kind, len(g.Body), size, e)
			}
		}
	}
}

func TestGetRefusesNumbers(t *testing.T) { // P3.2
	good := []byte{0, 0, 0, 1}
	for _, x := range []struct {
		head []byte
		want api.Errno
	}{
		{nil, api.ErrMore},
		{[]byte{129}, api.ErrMore},
		{[]byte{128}, api.ErrForm},
		{[]byte{128, 1}, api.ErrForm},
		{[]byte{255, 255, 255, 255, 255, 255, 255}, api.ErrMore},
		{[]byte{255, 255, 255, 255, 255, 255, 255, 128}, api.ErrForm},
		{[]byte{255, 255, 255, 255, 255, 255, 255, 127}, api.ErrForm},
		{digits(most + 1), api.ErrForm},
		{digits(most), api.ErrMore},
		{[]byte{5}, api.ErrMore},
		{[]byte{5, 136}, api.ErrMore},
		{[]byte{5, 128}, api.ErrForm},
		{[]byte{5, 255, 255, 255, 255, 255, 255, 255, 128}, api.ErrForm},
		{append([]byte{5}, digits(1024)...), api.ErrMore},
		{append([]byte{5}, digits(1025)...), api.ErrFull},
		{append([]byte{5}, digits(api.MaxInt-1)...), api.ErrFull},
	} {
		refused(t, x.head, x.want)
		if x.want != api.ErrMore {
			refused(t, append(bytes.Clone(x.head), good...), x.want)
			refused(t, append(bytes.Clone(x.head), noise(2000)...), x.want)
		}
	}
}

func TestGetRefusesPieces(t *testing.T) { // P3.2
	for _, r := range samples() {
		b := bytesOf(r)
		for i := range b {
			refused(t, b[:i], api.ErrMore)
		}
	}
}

func TestGetRefusesSums(t *testing.T) { // P3.2
	for _, body := range [][]byte{nil, {0}, []byte("Wikipedia"), noise(1024)} {
		sum := adler32.Checksum(body)
		for _, other := range []uint32{0, sum + 1, sum - 1, sum + 1<<8, sum + 1<<16, sum + 1<<24, sum + 65521, sum + 65521<<16, ^sum, math.MaxUint32} {
			refused(t, laid(3, len(body), other, body), api.ErrSum)
		}
		for bit := range 32 {
			refused(t, laid(3, len(body), sum^1<<bit, body), api.ErrSum)
		}
	}
}

func TestGetFirstError(t *testing.T) { // P3.2, R2: each error ahead of all that come behind it
	long := digits(1025)
	for _, x := range []struct {
		b    []byte
		want api.Errno
	}{
		{append(digits(most+1), 128), api.ErrForm},
		{append(digits(most+1), long...), api.ErrForm},
		{digits(most + 1), api.ErrForm},
		{append([]byte{128}, long...), api.ErrForm},
		{append([]byte{5}, long...), api.ErrFull},
		{append(append([]byte{5}, long...), 9, 9, 9, 9), api.ErrFull},
		{[]byte{5, 1, 9, 9, 9, 9}, api.ErrMore},
		{[]byte{5, 3, 9, 9, 9, 9, 7, 7}, api.ErrMore},
		{[]byte{5, 0, 9, 9, 9}, api.ErrMore},
		{[]byte{5, 0, 9, 9, 9, 9}, api.ErrSum},
	} {
		refused(t, x.b, x.want)
	}
}

func TestAll(t *testing.T) { // P3.3
	for _, b := range [][]byte{nil, {}} {
		if l, e := All(b); e != api.OK || len(l) != 0 {
			t.Error(l, e)
		}
	}
	var all []byte
	want := samples()
	for i, r := range want {
		all = append(all, bytesOf(r)...)
		l, e := All(all)
		if e != api.OK || len(l) != i+1 {
			t.Fatalf("%d records: %d %d", i+1, len(l), e)
		}
		for k := range l {
			if !same(l[k], want[k]) {
				t.Fatalf("record %d of %d is another one", k, i+1)
			}
		}
	}
}

func TestAllRefuses(t *testing.T) { // P3.3, R4
	good := append(bytesOf(api.Record{Kind: 5}), bytesOf(api.Record{Kind: 300, Body: []byte("Wikipedia")})...)
	sum := laid(5, 0, 2, nil)
	for _, x := range []struct {
		bad  []byte
		want api.Errno
	}{
		{[]byte{5}, api.ErrMore},
		{[]byte{5, 0, 0, 0, 0}, api.ErrMore},
		{[]byte{128}, api.ErrForm},
		{digits(most + 1), api.ErrForm},
		{append([]byte{5}, digits(1025)...), api.ErrFull},
		{sum, api.ErrSum},
		{append(bytes.Clone(sum), 128), api.ErrSum},
		{append(append(bytes.Clone(sum), good...), 5), api.ErrSum},
	} {
		b := append(bytes.Clone(good), x.bad...)
		if l, e := All(b); e != x.want || len(l) != 0 {
			t.Errorf("%v at the end: %d records, %d, want %d", x.bad, len(l), e, x.want)
		}
	}
	for i := 1; i < len(good); i++ {
		l, e := All(good[:i])
		if i == 6 && (e != api.OK || len(l) != 1) || i != 6 && (e != api.ErrMore || len(l) != 0) {
			t.Errorf("the first %d bytes: %d records, %d", i, len(l), e)
		}
	}
}

func TestPutIsGot(t *testing.T) { // P3.4
	for _, r := range samples() {
		b, e := Put(r)
		if e != api.OK {
			t.Fatal(e)
		}
		g, size, e := Get(append(bytes.Clone(b), noise(50)...))
		if e != api.OK || size != len(b) || !same(g, r) {
			t.Errorf("kind %d, %d bytes: %d", r.Kind, len(r.Body), e)
		}
		if again, e := Put(g); e != api.OK || !bytes.Equal(again, b) {
			t.Errorf("kind %d, %d bytes: got, and put as others", r.Kind, len(r.Body))
		}
	}
}

func TestOtherByteIsRefused(t *testing.T) { // P3.4
	for _, body := range [][]byte{{0}, []byte("Wikipedia"), noise(129), make([]byte, 1024), noise(1024)} {
		b, _ := Put(api.Record{Kind: 9, Body: body})
		head := len(b) - len(body)
		for i := head; i < len(b); i++ {
			was := b[i]
			for _, c := range []byte{0, 1, 127, 128, 255, was + 1, was - 1, ^was} {
				if b[i] = c; c != was {
					refused(t, b, api.ErrSum)
				}
			}
			b[i] = was
		}
	}
}

func TestChangedPlacesAreRefused(t *testing.T) { // P3.4
	for _, body := range [][]byte{{0, 1}, {255, 0}, []byte("Wikipedia"), noise(129), noise(1024)} {
		b, _ := Put(api.Record{Kind: 9, Body: body})
		for i := len(b) - len(body); i < len(b)-1; i++ {
			if b[i] == b[i+1] {
				continue
			}
			b[i], b[i+1] = b[i+1], b[i]
			refused(t, b, api.ErrSum)
			b[i], b[i+1] = b[i+1], b[i]
		}
	}
}

func TestPutSharesNothing(t *testing.T) { // R3
	body := noise(20)
	b, _ := Put(api.Record{Kind: 5, Body: body})
	if !bytes.Equal(body, noise(20)) {
		t.Error("the record was changed")
	}
	clear(body)
	if !bytes.Equal(b, bytesOf(api.Record{Kind: 5, Body: noise(20)})) {
		t.Error("the bytes hang on the record")
	}
	copy(body, noise(20))
	clear(b)
	if !bytes.Equal(body, noise(20)) {
		t.Error("the record hangs on the bytes")
	}
}

func TestGetSharesNothing(t *testing.T) { // R3
	body := noise(20)
	one := bytesOf(api.Record{Kind: 5, Body: body})
	b := append(bytes.Clone(one), one...)
	r, _, _ := Get(b)
	l, _ := All(b)
	if !bytes.Equal(b, append(bytes.Clone(one), one...)) {
		t.Error("the bytes were changed")
	}
	clear(b)
	_ = append(l[0].Body, 1, 2, 3, 4, 5, 6, 7, 8)
	clear(l[0].Body)
	if !bytes.Equal(r.Body, body) || !bytes.Equal(l[1].Body, body) {
		t.Error("a record hangs on the bytes, or on another record")
	}
}

func TestAnyHead(t *testing.T) { // P1, P3.2: what is got of any bytes is put as the same ones, all else is refused
	for _, r := range samples() {
		b := append(bytesOf(r), noise(40)...)
		head := len(bytesOf(r)) - len(r.Body)
		for i := range head {
			was := b[i]
			for c := range 256 {
				b[i] = byte(c)
				g, size, e := Get(b)
				if e != api.OK {
					refused(t, b, e)
					continue
				}
				if again, f := Put(g); f != api.OK || !bytes.Equal(again, b[:size]) {
					t.Fatalf("%x: put as %x %d", b[:size], again, f)
				}
			}
			b[i] = was
		}
	}
}
