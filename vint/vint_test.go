package vint_test

import (
	"bytes"
	"math"
	"slices"
	"testing"

	"catchword/api"
	"catchword/vint"
)

// written holds the numbers at whose neighbours a byte more is needed, and some between.
var written = []struct {
	n int
	b []byte
}{
	{0, []byte{0}},
	{1, []byte{1}},
	{127, []byte{127}},
	{128, []byte{128, 1}},
	{129, []byte{129, 1}},
	{255, []byte{255, 1}},
	{256, []byte{128, 2}},
	{300, []byte{172, 2}},
	{1<<14 - 1, []byte{255, 127}},
	{1 << 14, []byte{128, 128, 1}},
	{1<<21 - 1, []byte{255, 255, 127}},
	{1 << 21, []byte{128, 128, 128, 1}},
	{1<<28 - 1, []byte{255, 255, 255, 127}},
	{1 << 28, []byte{128, 128, 128, 128, 1}},
	{1 << 31, []byte{128, 128, 128, 128, 8}},
	{1 << 34, []byte{128, 128, 128, 128, 64}},
	{api.MaxInt - 1, []byte{254, 255, 255, 255, 127}},
	{api.MaxInt, []byte{255, 255, 255, 255, 127}},
}

// malformed holds bytes at whose beginning no number's bytes stand.
var malformed = [][]byte{
	nil,
	{},
	{128},
	{255},
	{128, 128, 128, 128},
	{255, 255, 255, 255},
	{128, 0},
	{255, 0},
	{129, 128, 0},
	{255, 255, 0},
	{128, 128, 128, 0},
	{255, 255, 255, 255, 0},
	{128, 128, 128, 128, 128},
	{255, 255, 255, 255, 255},
	{128, 128, 128, 128, 128, 0},
	{128, 128, 128, 128, 128, 1},
	{255, 255, 255, 255, 255, 127},
	{128, 128, 128, 128, 128, 128, 128, 128, 128, 1},
}

// edgeLists are rising lists, the longest ones and those of the greatest numbers among them.
func edgeLists() [][]int {
	lists := [][]int{nil, {}, {5}, {3, 4, 9}, {0, 129}, {7, 300, 301, 1 << 20, 1 << 30}, count(0, api.MaxList), count(api.MaxInt+1-api.MaxList, api.MaxList)}
	edges := []int{0, 1, 127, 128, 129, 1 << 14, api.MaxInt - 1, api.MaxInt}
	for set := range 1 << len(edges) {
		var l []int
		for i, n := range edges {
			if set>>i&1 == 1 {
				l = append(l, n)
			}
		}
		lists = append(lists, l)
	}
	return lists
}

// count are as many numbers as many says, each one above the one ahead.
func count(first, many int) []int {
	l := make([]int, many)
	for i := range l {
		l[i] = first + i
	}
	return l
}

// rows hands on each row of bytes, of these and of at most six, with all that are shorter.
func rows(each func(b []byte)) {
	var grow func(b []byte)
	grow = func(b []byte) {
		each(slices.Clone(b))
		if len(b) == 6 {
			return
		}
		for _, c := range []byte{0, 1, 2, 127, 128, 255} {
			grow(append(b, c))
		}
	}
	grow(nil)
}

// number is what Get must answer at b's beginning, worked out from the document's words by multiplying.
func number(b []byte) (int, int, api.Errno) {
	n, unit := 0, 1
	for i, c := range b {
		if i == 5 {
			break
		}
		if c >= 128 {
			n += (int(c) - 128) * unit
			unit *= 128
			continue
		}
		if i > 0 && c == 0 {
			break
		}
		return n + int(c)*unit, i + 1, api.OK
	}
	return 0, 0, api.ErrForm
}

// list is what Read must answer at b's beginning.
func list(b []byte) ([]int, int, api.Errno) {
	many, at, e := number(b)
	if e != api.OK || many > 2000 {
		return nil, 0, api.ErrForm
	}
	l := []int{}
	for i := range many {
		n, width, e := number(b[at:])
		if e != api.OK {
			return nil, 0, api.ErrForm
		}
		if i > 0 {
			n += l[i-1] + 1
		}
		if n > 1<<35-1 {
			return nil, 0, api.ErrForm
		}
		l = append(l, n)
		at += width
	}
	return l, at, api.OK
}

func wantGet(t *testing.T, b []byte, at, n, place int, e api.Errno) {
	t.Helper()
	gotN, gotPlace, gotE := vint.Get(b, at)
	if gotN != n || gotPlace != place || gotE != e {
		t.Errorf("Get(%v, %d): %d, %d, %d; want %d, %d, %d", b, at, gotN, gotPlace, gotE, n, place, e)
	}
}

func wantRead(t *testing.T, b []byte, at int, l []int, place int, e api.Errno) {
	t.Helper()
	gotL, gotPlace, gotE := vint.Read(b, at)
	if !slices.Equal(gotL, l) || gotPlace != place || gotE != e {
		t.Errorf("Read(%v, %d): %v, %d, %d; want %v, %d, %d", b, at, gotL, gotPlace, gotE, l, place, e)
	}
}

func wantRise(t *testing.T, l []int, b []byte, e api.Errno) {
	t.Helper()
	gotB, gotE := vint.Rise(l)
	if !bytes.Equal(gotB, b) || gotE != e {
		t.Errorf("Rise(%v): %v, %d; want %v, %d", l, gotB, gotE, b, e)
	}
}

// P1.1: a number's bytes are written, the lowest seven bits first.
func TestPut(t *testing.T) {
	for _, c := range written {
		if b := vint.Put(c.n); !bytes.Equal(b, c.b) {
			t.Errorf("Put(%d): %v; want %v", c.n, b, c.b)
		}
	}
}

// P1.1: a number that has no bytes has none.
func TestPutBeyond(t *testing.T) {
	for _, n := range []int{-1, -128, math.MinInt, api.MaxInt + 1, 1 << 36, math.MaxInt} {
		if b := vint.Put(n); len(b) != 0 {
			t.Errorf("Put(%d): %v; want nothing", n, b)
		}
	}
}

// P1.1: the bytes are as few as can be, and each number has others.
func TestPutShortest(t *testing.T) {
	for n := range 1 << 17 {
		b := vint.Put(n)
		got, place, e := number(b)
		if got != n || place != len(b) || e != api.OK {
			t.Fatalf("Put(%d): %v", n, b)
		}
	}
}

// P1.1: a number is read wherever it stands, with the place behind it.
func TestGet(t *testing.T) {
	for _, c := range written {
		wantGet(t, c.b, 0, c.n, len(c.b), api.OK)
		wantGet(t, slices.Concat(c.b, []byte{0, 255}), 0, c.n, len(c.b), api.OK)
		wantGet(t, slices.Concat([]byte{255, 128, 9}, c.b, []byte{128}), 3, c.n, 3+len(c.b), api.OK)
	}
}

// P1.1: the place must be from 0 to how many bytes there are, whatever the bytes are.
func TestGetPlaces(t *testing.T) {
	for _, b := range [][]byte{nil, {}, {1}, {128}, {172, 2}, {128, 0, 1}} {
		for _, at := range []int{-1, -2, math.MinInt, len(b) + 1, len(b) + 2, math.MaxInt} {
			wantGet(t, b, at, 0, 0, api.ErrArg)
		}
		wantGet(t, b, len(b), 0, 0, api.ErrForm)
	}
}

// P1.1: bytes that are cut off, longer than need be, or too many are no number's.
func TestGetForm(t *testing.T) {
	for _, b := range malformed {
		wantGet(t, b, 0, 0, 0, api.ErrForm)
		wantGet(t, slices.Concat([]byte{172, 2}, b), 2, 0, 0, api.ErrForm)
	}
	for _, c := range written {
		for cut := range len(c.b) {
			wantGet(t, c.b[:cut], 0, 0, 0, api.ErrForm)
		}
	}
}

// P1.1: every short row of bytes is read as the document's words say.
func TestGetRows(t *testing.T) {
	rows(func(b []byte) {
		n, width, e := number(b)
		wantGet(t, b, 0, n, width, e)
		if e == api.OK && !bytes.Equal(vint.Put(n), b[:width]) {
			t.Errorf("%v is read as %d, whose bytes are %v", b, n, vint.Put(n))
		}
	})
}

// P1.2: a rising list's bytes are how many there are, the first one, and what each other one is above the one ahead, less 1.
func TestRise(t *testing.T) {
	wantRise(t, nil, []byte{0}, api.OK)
	wantRise(t, []int{}, []byte{0}, api.OK)
	wantRise(t, []int{0}, []byte{1, 0}, api.OK)
	wantRise(t, []int{300}, []byte{1, 172, 2}, api.OK)
	wantRise(t, []int{3, 4, 9}, []byte{3, 3, 0, 4}, api.OK)
	wantRise(t, []int{0, 129}, []byte{2, 0, 128, 1}, api.OK)
	wantRise(t, []int{api.MaxInt}, []byte{1, 255, 255, 255, 255, 127}, api.OK)
	wantRise(t, []int{0, api.MaxInt}, []byte{2, 0, 254, 255, 255, 255, 127}, api.OK)
	wantRise(t, []int{api.MaxInt - 1, api.MaxInt}, []byte{2, 254, 255, 255, 255, 127, 0}, api.OK)
	wantRise(t, count(0, api.MaxList), append([]byte{208, 15}, make([]byte, api.MaxList)...), api.OK)
	wantRise(t, count(2, 128), append([]byte{128, 1, 2}, make([]byte, 127)...), api.OK)
}

// P1.2: a list that is not rising has no bytes.
func TestRiseNot(t *testing.T) {
	for _, l := range [][]int{
		{-1}, {-1, 0}, {math.MinInt}, {math.MinInt, math.MaxInt}, {0, -1}, {5, -1, 6},
		{api.MaxInt + 1}, {math.MaxInt}, {0, api.MaxInt + 1}, {api.MaxInt, api.MaxInt + 1}, {math.MaxInt, 0},
		{0, 0}, {1, 1}, {2, 1}, {1, 2, 2}, {1, 3, 2}, {1, 2, 3, 0}, {api.MaxInt, api.MaxInt}, {api.MaxInt, 0},
		count(0, api.MaxList+1), count(7, 3*api.MaxList), make([]int, 2), make([]int, api.MaxList+1),
	} {
		wantRise(t, l, nil, api.ErrArg)
	}
}

// P1.2: the place must be from 0 to how many bytes there are, whatever the bytes are.
func TestReadPlaces(t *testing.T) {
	for _, b := range [][]byte{nil, {}, {0}, {1}, {128}, {1, 5}, {3, 3, 0, 4}} {
		for _, at := range []int{-1, -2, math.MinInt, len(b) + 1, len(b) + 2, math.MaxInt} {
			wantRead(t, b, at, nil, 0, api.ErrArg)
		}
		wantRead(t, b, len(b), nil, 0, api.ErrForm)
	}
}

// P1.2: a list is read from its place on, and no byte behind it.
func TestRead(t *testing.T) {
	wantRead(t, []byte{0}, 0, nil, 1, api.OK)
	wantRead(t, []byte{3, 3, 0, 4}, 0, []int{3, 4, 9}, 4, api.OK)
	wantRead(t, []byte{3, 3, 0, 4}, 1, nil, 0, api.ErrForm)
	wantRead(t, []byte{3, 3, 0, 4}, 2, nil, 3, api.OK)
	wantRead(t, []byte{9, 2, 0, 128, 1, 128}, 1, []int{0, 129}, 5, api.OK)
}

// P1.2: bytes that no rising list has are refused.
func TestReadForm(t *testing.T) {
	for _, b := range malformed {
		wantRead(t, b, 0, nil, 0, api.ErrForm)
		wantRead(t, slices.Concat([]byte{1}, b), 0, nil, 0, api.ErrForm)
		wantRead(t, slices.Concat([]byte{3, 3, 0}, b), 0, nil, 0, api.ErrForm)
	}
	for _, b := range [][]byte{
		{1}, {2, 5}, {127, 0, 0},
		{209, 15, 0}, append([]byte{209, 15}, make([]byte, api.MaxList+1)...), append([]byte{255, 255, 255, 255, 127}, make([]byte, 3*api.MaxList)...),
		{2, 255, 255, 255, 255, 127, 0}, {2, 0, 255, 255, 255, 255, 127}, {2, 1, 254, 255, 255, 255, 127},
		{3, 254, 255, 255, 255, 127, 0, 0}, {3, 255, 255, 255, 255, 127, 255, 255, 255, 255, 127, 0},
		{129, 0, 5}, {1, 133, 0},
	} {
		wantRead(t, b, 0, nil, 0, api.ErrForm)
	}
}

// P1.2: every short row of bytes is read as the document's words say, and what is read has just these bytes.
func TestReadRows(t *testing.T) {
	rows(func(b []byte) {
		l, width, e := list(b)
		wantRead(t, b, 0, l, width, e)
		if e == api.OK {
			wantRise(t, l, b[:width], api.OK)
		}
	})
}

// P1.3: what is put is read again, whatever stands around it.
func TestNumbersAround(t *testing.T) {
	var numbers []int
	for shift := range 36 {
		for _, n := range []int{1<<shift - 1, 1 << shift, 1<<shift + 1, 1<<shift | 5<<shift>>4} {
			if n <= api.MaxInt {
				numbers = append(numbers, n)
			}
		}
	}
	around := [][]byte{nil, {0}, {1}, {127}, {128}, {255}, {255, 255, 255, 255, 255}, {128, 0}}
	for _, n := range numbers {
		own := vint.Put(n)
		for _, ahead := range around {
			for _, behind := range around {
				wantGet(t, slices.Concat(ahead, own, behind), len(ahead), n, len(ahead)+len(own), api.OK)
			}
		}
	}
}

// P1.3: a list that is put is read again, whatever stands around it; none that is cut off is.
func TestListsAround(t *testing.T) {
	around := [][]byte{nil, {0}, {1}, {128}, {255, 255, 255, 255, 255}}
	for _, l := range edgeLists() {
		own, e := vint.Rise(l)
		if e != api.OK {
			t.Fatalf("Rise(%v): %d", l, e)
		}
		for _, ahead := range around {
			for _, behind := range around {
				wantRead(t, slices.Concat(ahead, own, behind), len(ahead), l, len(ahead)+len(own), api.OK)
			}
		}
		for cut := range len(own) {
			wantRead(t, own[:cut], 0, nil, 0, api.ErrForm)
		}
	}
}

// P1.3: no number's bytes begin another one's.
func TestNoneBeginsAnother(t *testing.T) {
	var all [][]byte
	for n := range 1 << 15 {
		all = append(all, vint.Put(n))
	}
	for _, c := range written {
		if c.n >= 1<<15 {
			all = append(all, vint.Put(c.n))
		}
	}
	// in their order, whatever begins another one stands right ahead of one that it begins
	slices.SortFunc(all, bytes.Compare)
	for i := 1; i < len(all); i++ {
		if bytes.HasPrefix(all[i], all[i-1]) {
			t.Errorf("%v begins %v", all[i-1], all[i])
		}
	}
}

// R3: what lies behind a list's length is neither read nor changed, and what is handed in stays.
func TestArgumentsStay(t *testing.T) {
	b := []byte{2, 172, 2, 128, 1}
	wantGet(t, b[:2], 1, 0, 0, api.ErrForm)
	wantGet(t, b[:2], 3, 0, 0, api.ErrArg)
	wantRead(t, b[:4], 0, nil, 0, api.ErrForm)
	wantRead(t, b, 0, []int{300, 429}, 5, api.OK)
	if !slices.Equal(b, []byte{2, 172, 2, 128, 1}) {
		t.Errorf("bytes were changed: %v", b)
	}
	l := []int{3, 4, 9, 1, -1}
	wantRise(t, l[:3], []byte{3, 3, 0, 4}, api.OK)
	wantRise(t, l[:4], nil, api.ErrArg)
	if !slices.Equal(l, []int{3, 4, 9, 1, -1}) {
		t.Errorf("the list was changed: %v", l)
	}
}

// R3, R5: an answer is the caller's own, and the next one is the same.
func TestAnswersAreNew(t *testing.T) {
	for range 2 {
		for _, c := range written {
			b := vint.Put(c.n)
			if !bytes.Equal(b, c.b) {
				t.Errorf("Put(%d): %v", c.n, b)
			}
			clear(b)
		}
		l := []int{3, 4, 9}
		b, _ := vint.Rise(l)
		clear(l)
		read, _, _ := vint.Read(b, 0)
		clear(b)
		if !slices.Equal(read, []int{3, 4, 9}) {
			t.Errorf("%v", read)
		}
		clear(read)
	}
}
