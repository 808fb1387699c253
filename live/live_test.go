package live_test

import (
	"bytes"
	"math"
	"slices"
	"strings"
	"testing"

	"catchword/api"
	"catchword/live"
	"catchword/vint"
)

// of is the list that a text tells of: by an x a document that lives, by a dot one that is dead.
func of(text string) []bool {
	l := make([]bool, len(text))
	for i := range l {
		l[i] = text[i] == 'x'
	}
	return l
}

// show is the text of a list.
func show(l []bool) string {
	s := ""
	for _, lives := range l {
		if lives {
			s += "x"
		} else {
			s += "."
		}
	}
	return s
}

// short are all lists of at most that many documents.
func short(most int) [][]bool {
	out := [][]bool{nil}
	for i := 0; len(out[i]) < most; i++ {
		out = append(out, append(slices.Clone(out[i]), false), append(slices.Clone(out[i]), true))
	}
	return out
}

// sizes are those at which another byte begins, or no more may be, and those around them.
var sizes = []int{0, 1, 2, 7, 8, 9, 15, 16, 17, 23, 24, 25, 31, 32, 33, 55, 56, 57, 63, 64}

// edges are lists of the sizes: of the living, of the dead, of one that lives, of one that is dead, and mixed.
func edges() [][]bool {
	var out [][]bool
	for _, n := range sizes {
		out = append(out, of(strings.Repeat("x", n)), of(strings.Repeat(".", n)), of(strings.Repeat("x..x.xx", 10)[:n]))
		for i := range n {
			one, other := make([]bool, n), make([]bool, n)
			for j := range n {
				one[j], other[j] = j == i, j != i
			}
			out = append(out, one, other)
		}
	}
	return out
}

// beyond are lists that may not be.
func beyond() [][]bool {
	var out [][]bool
	for _, n := range []int{65, 66, 72, 128, 129, 2000} {
		out = append(out, of(strings.Repeat("x", n)), of(strings.Repeat(".", n)), of(strings.Repeat("x..x.xx", 300)[:n]))
	}
	return out
}

// packed are the bytes of a list of at most 127 documents, worked out by adding.
func packed(l []bool) []byte {
	b := []byte{byte(len(l))}
	for len(l) > 0 {
		n, unit := 0, 1
		for _, lives := range l[:min(8, len(l))] {
			if lives {
				n += unit
			}
			unit *= 2
		}
		b = append(b, byte(n))
		l = l[min(8, len(l)):]
	}
	return b
}

func wantKill(t *testing.T, l []bool, i int, want []bool, is bool) {
	t.Helper()
	if got, gotIs := live.Kill(l, i); !slices.Equal(got, want) || gotIs != is {
		t.Errorf("Kill(%s, %d): %s, %v; want %s, %v", show(l), i, show(got), gotIs, show(want), is)
	}
}

func wantUnpack(t *testing.T, b []byte, want []bool, e api.Errno) {
	t.Helper()
	if got, gotE := live.Unpack(b); !slices.Equal(got, want) || gotE != e {
		t.Errorf("Unpack(%v): %s, %d; want %s, %d", b, show(got), gotE, show(want), e)
	}
}

// P4.1: there are n that live, from 0 to 64.
func TestNew(t *testing.T) {
	for n := range 65 {
		if l := live.New(n); show(l) != strings.Repeat("x", n) {
			t.Errorf("New(%d): %s", n, show(l))
		}
	}
}

// P4.1: so few or so many there are not.
func TestNewBeyond(t *testing.T) {
	for _, n := range []int{-1, -2, -64, math.MinInt, 65, 66, 128, 256, 1 << 32, math.MaxInt} {
		if l := live.New(n); len(l) != 0 {
			t.Errorf("New(%d): %s; want nothing", n, show(l))
		}
	}
}

// P4.1: a list may be, if there are at most 64, whoever lives.
func TestMay(t *testing.T) {
	for _, l := range slices.Concat(short(4), edges(), [][]bool{nil, {}}) {
		if !live.May(l) {
			t.Errorf("%s may be", show(l))
		}
	}
	for _, l := range beyond() {
		if live.May(l) {
			t.Errorf("%s may not be", show(l))
		}
	}
}

// P4.1: those that live are counted, of a list that may not be too.
func TestCount(t *testing.T) {
	for _, l := range slices.Concat(short(8), edges(), beyond(), [][]bool{nil, {}}) {
		if n, want := live.Count(l), strings.Count(show(l), "x"); n != want {
			t.Errorf("Count(%s): %d; want %d", show(l), n, want)
		}
	}
}

// P4.1: one that lives dies, and all others stay; one that is dead can't die.
func TestKill(t *testing.T) {
	for _, l := range slices.Concat(short(6), edges(), beyond()) {
		for i := range min(len(l), 70) {
			want := of(show(l)[:i] + "." + show(l)[i+1:])
			wantKill(t, l, i, want, l[i])
			wantKill(t, want, i, want, false)
		}
	}
	wantKill(t, of("xxx"), 0, of(".xx"), true)
	wantKill(t, of("xxx"), 2, of("xx."), true)
	wantKill(t, of("x.x"), 1, of("x.x"), false)
}

// P4.1: where there is none, nobody dies.
func TestKillNone(t *testing.T) {
	for _, l := range slices.Concat(short(3), edges(), beyond(), [][]bool{nil, {}}) {
		for _, i := range []int{-1, -2, -len(l), math.MinInt, len(l), len(l) + 1, 2000, math.MaxInt} {
			if i != 0 || len(l) == 0 {
				wantKill(t, l, i, l, false)
			}
		}
	}
}

// below is what Less must answer, by pairs of what texts tell.
func below(a, b []bool) bool {
	if len(a) != len(b) {
		return false
	}
	for i := range a {
		if show(a[i:i+1])+show(b[i:i+1]) == "x." {
			return false
		}
	}
	return true
}

// both is what And must answer.
func both(a, b []bool) []bool {
	if len(a) != len(b) {
		return nil
	}
	l := []bool{}
	for i := range a {
		l = append(l, show(a[i:i+1])+show(b[i:i+1]) == "xx")
	}
	return l
}

// P4.1: Less and And are what the words say, of all short lists against one another, as many or not.
func TestPairs(t *testing.T) {
	all := short(5)
	for _, a := range all {
		for _, b := range all {
			if got, want := live.Less(a, b), below(a, b); got != want {
				t.Errorf("Less(%s, %s): %v; want %v", show(a), show(b), got, want)
			}
			if got, want := live.And(a, b), both(a, b); !slices.Equal(got, want) {
				t.Errorf("And(%s, %s): %s; want %s", show(a), show(b), show(got), show(want))
			}
		}
	}
}

// P4.1: the same of long lists, those too that may not be, at each of their places.
func TestLongPairs(t *testing.T) {
	for _, n := range []int{8, 9, 63, 64, 65, 130} {
		every := of(strings.Repeat("x", n))
		for i := range n {
			but, _ := live.Kill(every, i)
			if !live.Less(but, every) || live.Less(every, but) || !live.Less(but, but) {
				t.Errorf("%d of %d: Less", i, n)
			}
			for _, l := range [][]bool{live.And(but, every), live.And(every, but), live.And(but, but)} {
				if !slices.Equal(l, but) {
					t.Errorf("%d of %d: And %s", i, n, show(l))
				}
			}
		}
	}
}

// P4.1: lists that have not as many are not below one another, and nothing is in both, even if one begins the other.
func TestUnlikePairs(t *testing.T) {
	lists := append([][]bool{}, live.New(0), live.New(1), live.New(8), live.New(9), live.New(64), of(strings.Repeat("x", 65)), make([]bool, 3), make([]bool, 7), make([]bool, 66))
	for i, a := range lists {
		for j, b := range lists {
			if i != j && (live.Less(a, b) || len(live.And(a, b)) != 0) {
				t.Errorf("%d and %d: %v, %s", len(a), len(b), live.Less(a, b), show(live.And(a, b)))
			}
		}
	}
	if !live.Less(nil, nil) || !live.Less(nil, []bool{}) || !live.Less([]bool{}, nil) || len(live.And(nil, []bool{})) != 0 {
		t.Error("no documents are as many as none")
	}
}

// P4.2: how many there are, and a byte of each eight, the first one being its lowest bit.
func TestPack(t *testing.T) {
	for _, c := range []struct {
		l string
		b []byte
	}{
		{"", []byte{0}},
		{"x", []byte{1, 1}},
		{".", []byte{1, 0}},
		{"x.x", []byte{3, 5}},
		{".......x", []byte{8, 128}},
		{"xxxxxxxx", []byte{8, 255}},
		{"xxxxxxxxx", []byte{9, 255, 1}},
		{"........x", []byte{9, 0, 1}},
		{"x........", []byte{9, 1, 0}},
		{".xx.xxxxx.", []byte{10, 246, 1}},
		{strings.Repeat("x", 64), []byte{64, 255, 255, 255, 255, 255, 255, 255, 255}},
		{strings.Repeat(".", 63) + "x", []byte{64, 0, 0, 0, 0, 0, 0, 0, 128}},
		{strings.Repeat("x", 57), []byte{57, 255, 255, 255, 255, 255, 255, 255, 1}},
	} {
		if b := live.Pack(of(c.l)); !bytes.Equal(b, c.b) {
			t.Errorf("Pack(%s): %v; want %v", c.l, b, c.b)
		}
		wantUnpack(t, c.b, of(c.l), api.OK)
	}
	for _, l := range slices.Concat(short(10), edges()) {
		if b := live.Pack(l); !bytes.Equal(b, packed(l)) {
			t.Errorf("Pack(%s): %v; want %v", show(l), b, packed(l))
		}
	}
}

// P4.2: a list that may not be has no bytes.
func TestPackBeyond(t *testing.T) {
	for _, l := range beyond() {
		if b := live.Pack(l); len(b) != 0 {
			t.Errorf("Pack(%s): %v; want nothing", show(l), b)
		}
	}
}

// P4.2: every row of at most two bytes, and of three at the sizes, is the list's whose bytes they are, or nobody's.
func TestUnpackRows(t *testing.T) {
	owner := map[string][]bool{}
	for _, l := range short(16) {
		owner[string(packed(l))] = l
	}
	check := func(b ...byte) {
		if l, is := owner[string(b)]; is {
			wantUnpack(t, b, l, api.OK)
		} else {
			wantUnpack(t, b, nil, api.ErrForm)
		}
	}
	check()
	for first := range 256 {
		check(byte(first))
		for second := range 256 {
			check(byte(first), byte(second))
		}
	}
	for _, first := range []byte{0, 1, 7, 8, 9, 10, 15, 16, 17, 64, 65, 127, 128, 129, 136, 137, 255} {
		for second := range 256 {
			for third := range 256 {
				check(first, byte(second), byte(third))
			}
		}
	}
}

// P4.2: bytes that are cut, or have one more, are nobody's.
func TestUnpackLength(t *testing.T) {
	for _, l := range edges() {
		b := packed(l)
		for cut := range len(b) {
			wantUnpack(t, b[:cut], nil, api.ErrForm)
		}
		for _, more := range []byte{0, 1, 128, 255} {
			wantUnpack(t, append(slices.Clone(b), more), nil, api.ErrForm)
		}
		wantUnpack(t, slices.Concat(b, b), nil, api.ErrForm)
	}
	for _, b := range [][]byte{nil, {}} {
		wantUnpack(t, b, nil, api.ErrForm)
	}
}

// P4.2: bits beyond the last document are 0, each of them.
func TestUnpackBeyondLast(t *testing.T) {
	for _, l := range edges() {
		for bit := len(l) % 8; bit > 0 && bit < 8; bit++ {
			b := packed(l)
			b[len(b)-1] |= 1 << bit
			wantUnpack(t, b, nil, api.ErrForm)
		}
	}
}

// P4.2: bytes that tell of more than 64 documents are nobody's, be there as many bytes or not.
func TestUnpackTooMany(t *testing.T) {
	for _, n := range []int{65, 66, 72, 73, 127, 128, 129, 256, 300, 2000, 1 << 20, 1 << 34, api.MaxInt} {
		for _, many := range []int{0, 1, 8, 9, 10, 16, 17, 38, (min(n, 4000) + 7) / 8} {
			wantUnpack(t, append(vint.Put(n), make([]byte, many)...), nil, api.ErrForm)
		}
	}
}

// P4.2, R8: a number that is not put in its shortest bytes is read by nothing.
func TestUnpackShortest(t *testing.T) {
	for _, l := range edges() {
		own := packed(l)
		for _, longer := range [][]byte{{own[0] + 128, 0}, {own[0] + 128, 128, 0}, {own[0] + 128, 128, 128, 128, 0}, {own[0] + 128, 128, 128, 128, 128, 0}} {
			wantUnpack(t, append(longer, own[1:]...), nil, api.ErrForm)
		}
	}
	for _, b := range [][]byte{{128}, {255}, {128, 128, 128, 128, 128}, bytes.Repeat([]byte{255}, 20)} {
		wantUnpack(t, b, nil, api.ErrForm)
	}
}

// P4.3: what is packed is unpacked as it, and what is unpacked has just these bytes.
func TestPackedAgain(t *testing.T) {
	seen := map[string]string{}
	for _, l := range slices.Concat(short(12), edges()) {
		b := live.Pack(l)
		wantUnpack(t, b, l, api.OK)
		if m, e := live.Unpack(b); e != api.OK || !bytes.Equal(live.Pack(m), b) {
			t.Errorf("%v is unpacked as %s", b, show(m))
		}
		if other, is := seen[string(b)]; is && other != show(l) {
			t.Errorf("%s and %s have the bytes %v", other, show(l), b)
		}
		seen[string(b)] = show(l)
	}
}

// P4.3: And is below both; and nothing more that is below both is left out.
func TestAndBelowBoth(t *testing.T) {
	four := slices.DeleteFunc(short(4), func(l []bool) bool { return len(l) != 4 })
	for _, a := range four {
		for _, b := range four {
			c := live.And(a, b)
			if !live.Less(c, a) || !live.Less(c, b) {
				t.Errorf("And(%s, %s): %s", show(a), show(b), show(c))
			}
			for _, l := range four {
				if live.Less(l, a) && live.Less(l, b) && !live.Less(l, c) {
					t.Errorf("%s is below %s and %s, not below %s", show(l), show(a), show(b), show(c))
				}
			}
		}
	}
	for _, a := range edges() {
		for _, b := range edges() {
			if c := live.And(a, b); len(a) == len(b) && (!live.Less(c, a) || !live.Less(c, b)) {
				t.Errorf("And(%s, %s): %s", show(a), show(b), show(c))
			}
		}
	}
}

// P4.1, P4.3: who dies leaves a list below the one ahead, of one less; and nothing dies twice.
func TestAllDie(t *testing.T) {
	for _, n := range sizes {
		l := live.New(n)
		for i := range n {
			at := i * 37 % n // each place once, as 37 divides none of the sizes
			next, is := live.Kill(l, at)
			if !is || live.Count(next) != n-i-1 || !live.Less(next, l) || live.Less(l, next) {
				t.Errorf("%d of %d: %s", at, n, show(next))
			}
			wantKill(t, next, at, next, false)
			wantUnpack(t, live.Pack(next), next, api.OK)
			l = next
		}
	}
}

// The chapter's example.
func TestExample(t *testing.T) {
	l, is := live.Kill(live.New(3), 1)
	if b := live.Pack(l); !is || !bytes.Equal(b, []byte{3, 5}) {
		t.Errorf("%v", b)
	}
}

// R3: what is handed in stays, and what lies behind a list's length is neither read nor changed.
func TestArgumentsStay(t *testing.T) {
	back := of("x.xx.x" + strings.Repeat("x", 70))
	was := slices.Clone(back)
	l := back[:4]
	wantKill(t, l, 0, of("..xx"), true)
	wantKill(t, l, 5, l, false)
	wantKill(t, back[:0], 0, nil, false)
	if live.Count(l) != 3 || !live.May(l) || !live.Less(l, of("xxxx")) || live.Less(l, of("xxxxx")) || live.Less(of("x.xx."), l) {
		t.Error("more was read than the list has")
	}
	if m := live.And(l, back[2:6]); !slices.Equal(m, of("x..x")) {
		t.Errorf("%s", show(m))
	}
	if b := live.Pack(l); !bytes.Equal(b, []byte{4, 13}) {
		t.Errorf("%v", b)
	}
	if !slices.Equal(back, was) {
		t.Errorf("the list was changed: %s", show(back))
	}

	b := []byte{9, 255, 1, 0, 7}
	wantUnpack(t, b[:2], nil, api.ErrForm)
	wantUnpack(t, b[:3], of("xxxxxxxxx"), api.OK)
	wantUnpack(t, b[:4], nil, api.ErrForm)
	if !bytes.Equal(b, []byte{9, 255, 1, 0, 7}) {
		t.Errorf("the bytes were changed: %v", b)
	}
}

// turn changes all that there is behind a list's beginning.
func turn(l []bool) {
	l = l[:cap(l)]
	for i := range l {
		l[i] = !l[i]
	}
}

// R3, R5: an answer is the caller's own, also that of a Kill by which nobody dies, and the next one is the same.
func TestAnswersAreNew(t *testing.T) {
	for _, l := range append(edges(), beyond()[2]) {
		was := slices.Clone(l)
		other := slices.Clone(l)
		for range 2 {
			for _, i := range []int{-1, 0, len(l) / 2, len(l) - 1, len(l)} {
				m, _ := live.Kill(l, i)
				turn(m)
			}
			m := live.And(l, other)
			if !slices.Equal(m, was) {
				t.Errorf("And(%s, it): %s", show(l), show(m))
			}
			turn(m)
			turn(live.And(l, l))
			clear(live.Pack(l))
			turn(live.New(len(l)))
			if !slices.Equal(l, was) || !slices.Equal(other, was) {
				t.Fatalf("%s was changed: %s, %s", show(was), show(l), show(other))
			}
		}
		if !live.May(l) {
			continue
		}
		b := live.Pack(l)
		kept := slices.Clone(b)
		m, _ := live.Unpack(b)
		turn(m)
		if !bytes.Equal(b, kept) {
			t.Errorf("%v was changed: %v", kept, b)
		}
		m, _ = live.Unpack(b)
		clear(b)
		if !slices.Equal(m, was) {
			t.Errorf("%s was changed: %s", show(was), show(m))
		}
	}
}
