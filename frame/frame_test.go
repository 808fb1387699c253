package frame_test

import (
	"bytes"
	"hash/crc32"
	"slices"
	"testing"

	"catchword/api"
	"catchword/frame"
)

// framed holds whole frames, worked out by hand from the document's words.
var framed = []struct {
	kind byte
	b, f []byte
}{
	{1, nil, []byte{70, 1, 0, 195, 77, 18, 101}},
	{1, []byte{}, []byte{70, 1, 0, 195, 77, 18, 101}},
	{0, []byte{0}, []byte{70, 0, 1, 0, 37, 158, 38, 52}},
	{9, []byte("abc"), []byte{70, 9, 3, 97, 98, 99, 28, 193, 44, 249}},
	{255, []byte{255, 255}, []byte{70, 255, 2, 255, 255, 238, 176, 182, 139}},
}

// lengths are how many bytes there are within, with the bytes of that number; a byte more is needed at some of them.
var lengths = []struct {
	n   int
	row []byte
}{
	{0, []byte{0}},
	{1, []byte{1}},
	{2, []byte{2}},
	{70, []byte{70}},
	{127, []byte{127}},
	{128, []byte{128, 1}},
	{129, []byte{129, 1}},
	{16383, []byte{255, 127}},
	{16384, []byte{128, 128, 1}},
	{65535, []byte{255, 255, 3}},
	{65536, []byte{128, 128, 4}},
}

// text are n bytes that are unlike their neighbours.
func text(n int) []byte {
	b := make([]byte, n)
	for i := range b {
		b[i] = byte(i*7 + i>>8)
	}
	return b
}

// signed is b with its sum, as the library knows it, behind it.
func signed(parts ...[]byte) []byte {
	b := slices.Concat(parts...)
	n := crc32.Checksum(b, crc32.MakeTable(crc32.Castagnoli))
	return append(b, byte(n), byte(n>>8), byte(n>>16), byte(n>>24))
}

func wantOpen(t *testing.T, b []byte, kind byte, within []byte, e api.Errno) {
	t.Helper()
	got, gotE := frame.Open(b, kind)
	if !bytes.Equal(got, within) || gotE != e {
		t.Errorf("Open(%v, %d): %v, %d; want %v, %d", short(b), kind, short(got), gotE, short(within), e)
	}
}

// short is as much of b as a reader of the log can bear.
func short(b []byte) []byte {
	return b[:min(len(b), 24)]
}

// P2.1: the sums of a few texts, as others tell them too.
func TestSum(t *testing.T) {
	rising := make([]byte, 32)
	for i := range rising {
		rising[i] = byte(i)
	}
	for _, c := range []struct {
		b []byte
		n uint32
	}{
		{nil, 0},
		{[]byte{}, 0},
		{[]byte("123456789"), 3808858755},
		{[]byte("a"), 0xc1d04330},
		{[]byte("abc"), 0x364b3fb7},
		{[]byte{0}, 0x527d5351},
		{make([]byte, 32), 0x8a9136aa},
		{bytes.Repeat([]byte{255}, 32), 0x62a8ab43},
		{rising, 0x46dd794e},
		{[]byte("The quick brown fox jumps over the lazy dog"), 0x22620404},
	} {
		if n := frame.Sum(c.b); n != c.n {
			t.Errorf("Sum(%v): %x; want %x", c.b, n, c.n)
		}
	}
}

// P2.1: each byte counts, wherever it stands; a sum has no bound on how many there are.
func TestSumAll(t *testing.T) {
	table := crc32.MakeTable(crc32.Castagnoli)
	var all [][]byte
	for c := range 256 {
		all = append(all, []byte{byte(c)}, []byte{0, byte(c)}, []byte{byte(c), 0, 255})
	}
	for n := range 300 {
		all = append(all, text(n), make([]byte, n))
	}
	all = append(all, text(65535), text(65536), text(65537), text(200000))
	for _, b := range all {
		if n, want := frame.Sum(b), crc32.Checksum(b, table); n != want {
			t.Errorf("Sum(%v), of %d: %x; want %x", short(b), len(b), n, want)
		}
	}
}

// P2.1: a frame is 70, the kind, how many, the bytes, and the sum of all that, the lowest byte first.
func TestWrap(t *testing.T) {
	for _, c := range framed {
		if f := frame.Wrap(c.kind, c.b); !bytes.Equal(f, c.f) {
			t.Errorf("Wrap(%d, %v): %v; want %v", c.kind, c.b, f, c.f)
		}
	}
	for _, l := range lengths {
		b := text(l.n)
		want := signed([]byte{70, 3}, l.row, b)
		if f := frame.Wrap(3, b); !bytes.Equal(f, want) {
			t.Errorf("Wrap(3, .. %d bytes): %v; want %v", l.n, short(f), short(want))
		}
	}
}

// P2.1: each kind is written as it is.
func TestWrapKinds(t *testing.T) {
	for kind := range 256 {
		want := signed([]byte{70, byte(kind), 1, 5})
		if f := frame.Wrap(byte(kind), []byte{5}); !bytes.Equal(f, want) {
			t.Errorf("Wrap(%d, 5): %v; want %v", kind, f, want)
		}
	}
}

// P2.1: more than 65536 bytes have no frame.
func TestWrapTooMany(t *testing.T) {
	for _, n := range []int{65537, 65538, 1 << 17} {
		if f := frame.Wrap(1, text(n)); len(f) != 0 {
			t.Errorf("Wrap(1, .. %d bytes): %v; want nothing", n, short(f))
		}
	}
}

// P2.2: what is within is told, with OK.
func TestOpen(t *testing.T) {
	for _, c := range framed {
		wantOpen(t, c.f, c.kind, c.b, api.OK)
	}
	for _, l := range lengths {
		b := text(l.n)
		wantOpen(t, signed([]byte{70, 3}, l.row, b), 3, b, api.OK)
	}
}

// P2.2: bytes that are too few, or begin otherwise, are no frame's, be the sum right or not.
func TestOpenBeginning(t *testing.T) {
	for _, b := range [][]byte{nil, {}, {70}, {1}, {70, 1}, {70, 1, 0}, {70, 1, 0, 0, 0, 0}, {1, 70, 0, 0, 0, 0, 0}, make([]byte, 7), text(40)} {
		wantOpen(t, b, 1, nil, api.ErrForm)
	}
	for first := range 256 {
		if first == 70 {
			continue
		}
		wantOpen(t, signed([]byte{byte(first), 1, 0}), 1, nil, api.ErrForm)
		wantOpen(t, []byte{byte(first), 1, 0, 195, 77, 18, 101}, 1, nil, api.ErrForm)
	}
}

// P2.2: a frame is opened by its own kind alone, and another one is no matter of the sum.
func TestOpenKinds(t *testing.T) {
	for own := range 256 {
		f := signed([]byte{70, byte(own), 2, 7, 8})
		broken := slices.Clone(f)
		broken[4]++
		for asked := range 256 {
			if own == asked {
				wantOpen(t, f, byte(asked), []byte{7, 8}, api.OK)
				wantOpen(t, broken, byte(asked), nil, api.ErrSum)
				continue
			}
			wantOpen(t, f, byte(asked), nil, api.ErrForm)
			wantOpen(t, broken, byte(asked), nil, api.ErrForm)
		}
	}
}

// P2.2, R8: a length is read by its shortest bytes alone.
func TestOpenLongLengths(t *testing.T) {
	for _, c := range []struct {
		n   int
		row []byte
	}{
		{0, []byte{128, 0}}, {0, []byte{128, 128, 0}}, {0, []byte{128, 128, 128, 128, 0}}, {0, []byte{128, 128, 128, 128, 128, 0}},
		{1, []byte{129, 0}}, {3, []byte{131, 128, 0}}, {127, []byte{255, 0}}, {128, []byte{128, 129, 0}}, {65536, []byte{128, 128, 132, 0}},
	} {
		wantOpen(t, signed([]byte{70, 3}, c.row, text(c.n)), 3, nil, api.ErrForm)
	}
}

// P2.2: a length is at most 65536, even if as many bytes are there.
func TestOpenTooMany(t *testing.T) {
	b := text(65537)
	wantOpen(t, signed([]byte{70, 3, 129, 128, 4}, b), 3, nil, api.ErrForm)
	wantOpen(t, signed([]byte{70, 3, 129, 128, 4}, b[:65536]), 3, nil, api.ErrForm)
	wantOpen(t, signed([]byte{70, 3, 128, 128, 4}, b), 3, nil, api.ErrForm)
	wantOpen(t, signed([]byte{70, 3, 130, 128, 4}, text(65538)), 3, nil, api.ErrForm)
	wantOpen(t, signed([]byte{70, 3, 128, 128, 8}, text(1<<17)), 3, nil, api.ErrForm)
	for _, row := range [][]byte{{255, 255, 255, 255, 127}, {128, 128, 128, 128, 8}, {255, 255, 255, 255, 255, 127}, {255, 255, 255, 255, 255, 255, 255, 255, 127}} {
		wantOpen(t, signed([]byte{70, 3}, row), 3, nil, api.ErrForm)
		wantOpen(t, signed([]byte{70, 3}, row, text(9)), 3, nil, api.ErrForm)
	}
}

// P2.2: there are as many bytes as the length says, four more, and none behind, whatever the sum.
func TestOpenAsMany(t *testing.T) {
	for n := range 8 {
		for there := range 12 {
			f := signed([]byte{70, 3, byte(n)}, text(there))
			broken := slices.Clone(f)
			broken[len(f)-1]++
			if n == there {
				wantOpen(t, f, 3, text(n), api.OK)
				wantOpen(t, broken, 3, nil, api.ErrSum)
				continue
			}
			wantOpen(t, f, 3, nil, api.ErrForm)
			wantOpen(t, broken, 3, nil, api.ErrForm)
		}
	}
}

// P2.2: each of a sum's bits counts.
func TestOpenSum(t *testing.T) {
	for _, c := range framed {
		for bit := range 32 {
			f := slices.Clone(c.f)
			f[len(f)-4+bit/8] ^= 1 << (bit % 8)
			wantOpen(t, f, c.kind, nil, api.ErrSum)
		}
		high := slices.Clone(c.f)
		slices.Reverse(high[len(high)-4:])
		wantOpen(t, high, c.kind, nil, api.ErrSum)
	}
}

// P2.3: what is wrapped is opened as it.
func TestWrapOpen(t *testing.T) {
	for n := range 400 {
		for _, kind := range []byte{0, 1, 70, 255} {
			wantOpen(t, frame.Wrap(kind, text(n)), kind, text(n), api.OK)
			wantOpen(t, frame.Wrap(kind, make([]byte, n)), kind, make([]byte, n), api.OK)
		}
	}
	for _, n := range []int{16383, 16384, 65535, 65536} {
		wantOpen(t, frame.Wrap(2, text(n)), 2, text(n), api.OK)
	}
	inner := frame.Wrap(5, []byte("within"))
	wantOpen(t, frame.Wrap(5, inner), 5, inner, api.OK)
}

// turns are unlike ways to turn bits of four bytes, not none.
func turns() [][4]byte {
	var all [][4]byte
	some := []byte{0, 1, 4, 128, 255}
	for n := 1; n < 5*5*5*5; n++ {
		all = append(all, [4]byte{some[n%5], some[n/5%5], some[n/25%5], some[n/125]})
	}
	return all
}

// P2.3: a frame of which bytes within four in a row are other ones is not opened, wherever they stand.
func TestTurnedBytes(t *testing.T) {
	for _, n := range []int{0, 1, 2, 3, 4, 5, 9, 126, 127, 128, 129} {
		f := frame.Wrap(4, text(n))
		for at := range len(f) - 3 {
			if at > 12 && at < len(f)-12 {
				continue
			}
			for _, turn := range turns() {
				x := slices.Clone(f)
				for i, c := range turn {
					x[at+i] ^= c
				}
				if within, e := frame.Open(x, 4); e != api.ErrForm && e != api.ErrSum || len(within) != 0 {
					t.Fatalf("%v is opened: %v, %d", x, within, e)
				}
			}
		}
	}
}

// P2.3: each byte may be any other one: of the form ErrForm is told, of the rest ErrSum.
func TestEachByte(t *testing.T) {
	f := frame.Wrap(4, []byte("abc"))
	for i := range f {
		for turn := 1; turn < 256; turn++ {
			x := slices.Clone(f)
			x[i] ^= byte(turn)
			want := api.ErrSum
			if i < 3 {
				want = api.ErrForm
			}
			wantOpen(t, x, 4, nil, want)
		}
	}
}

// P2.3: a frame that is cut, at its end or at its beginning, is not opened, nor with a byte more.
func TestCutFrames(t *testing.T) {
	for _, n := range []int{0, 1, 4, 5, 127, 128, 300} {
		f := frame.Wrap(4, text(n))
		for cut := range len(f) {
			wantOpen(t, f[:cut], 4, nil, api.ErrForm)
			if cut > 0 {
				wantOpen(t, f[cut:], 4, nil, api.ErrForm)
			}
		}
		for c := range 256 {
			wantOpen(t, append(slices.Clone(f), byte(c)), 4, nil, api.ErrForm)
		}
		wantOpen(t, slices.Concat(f, f), 4, nil, api.ErrForm)
		wantOpen(t, signed(f), 4, nil, api.ErrForm)
	}
	long := frame.Wrap(4, text(65536))
	wantOpen(t, long[:len(long)-1], 4, nil, api.ErrForm)
	wantOpen(t, append(long, 0), 4, nil, api.ErrForm)
}

// R1, P1: no short row of bytes is opened, and none makes a panic.
func TestOpenRows(t *testing.T) {
	some := []byte{0, 1, 2, 70, 128, 255}
	var grow func(b []byte)
	grow = func(b []byte) {
		wantOpen(t, b, 1, nil, api.ErrForm)
		if len(b) == 6 {
			return
		}
		for _, c := range some {
			grow(append(b, c))
		}
	}
	grow(nil)
}

// R3: what lies behind a list's length is neither read nor changed, and what is handed in stays.
func TestArgumentsStay(t *testing.T) {
	b := []byte("abcdefghijklmnop")
	kept := slices.Clone(b)
	if f := frame.Wrap(9, b[:3]); !bytes.Equal(f, framed[3].f) {
		t.Errorf("Wrap: %v", f)
	}
	if n := frame.Sum(b[:1]); n != 0xc1d04330 {
		t.Errorf("Sum: %x", n)
	}
	if !bytes.Equal(b, kept) {
		t.Errorf("bytes were changed: %v", b)
	}
	f := append(slices.Clone(framed[3].f), 1, 2, 3)
	kept = slices.Clone(f)
	wantOpen(t, f[:10], 9, []byte("abc"), api.OK)
	wantOpen(t, f[:9], 9, nil, api.ErrForm)
	if !bytes.Equal(f, kept) {
		t.Errorf("the frame was changed: %v", f)
	}
}

// R3, R5: an answer is the caller's own, and the next one is the same.
func TestAnswersAreNew(t *testing.T) {
	for range 2 {
		b := []byte("abc")
		f := frame.Wrap(9, b)
		clear(b)
		if !bytes.Equal(f, framed[3].f) {
			t.Errorf("Wrap: %v", f)
		}
		within, _ := frame.Open(f, 9)
		clear(f)
		if string(within) != "abc" {
			t.Errorf("Open: %v", within)
		}
		f = frame.Wrap(9, []byte("abc"))
		within, _ = frame.Open(f, 9)
		clear(within[:cap(within)])
		wantOpen(t, f, 9, []byte("abc"), api.OK)
	}
}
