package post_test

import (
	"bytes"
	"math"
	"math/rand"
	"slices"
	"testing"

	"catchword/api"
	"catchword/post"
)

// count are as many numbers as many says, from the first one on, each by a step above the one ahead.
func count(first, many, step int) []int {
	l := make([]int, many)
	for i := range l {
		l[i] = first + i*step
	}
	return l
}

// of are postings of these documents, that of the document d at d and d + 7.
func of(docs ...int) []api.Post {
	var l []api.Post
	for _, d := range docs {
		l = append(l, api.Post{Doc: d, At: []int{d, d + 7}})
	}
	return l
}

// at are postings of one document.
func at(doc int, places ...int) []api.Post {
	return []api.Post{{Doc: doc, At: places}}
}

// sizes are how many postings there are at the edges of blocks, and of all of it.
var sizes = []int{0, 1, 2, 3, 4, 5, 7, 8, 9, 12, 13, 60, 61, 63, 64}

// edges are postings that may be: of the sizes, of the least and the greatest documents and places, of one place and of all.
func edges() [][]api.Post {
	out := [][]api.Post{
		nil, {}, at(3, 0, 2), at(0, 0), at(63, 119), at(0, 119), at(63, 0), at(0, 0, 119), of(0, 63),
		at(0, count(0, 120, 1)...), at(63, count(0, 120, 1)...), at(9, count(1, 119, 1)...), at(9, count(0, 60, 2)...),
	}
	for _, n := range sizes {
		for _, l := range [][]api.Post{of(count(0, n, 1)...), of(count(64-n, n, 1)...)} {
			out = append(out, l)
		}
		if n > 1 {
			out = append(out, of(count(0, n, 63/(n-1))...))
		}
		for _, many := range []int{1, 2, 120} {
			var l []api.Post
			for i := range n {
				l = append(l, api.Post{Doc: i, At: count(120-many, many, 1)})
			}
			out = append(out, l)
		}
	}
	return out
}

// mixed are postings that may be, of as many documents and places as it happens, the same ones each time.
func mixed(many int) [][]api.Post {
	dice := rand.New(rand.NewSource(6))
	some := func(below, n int) []int {
		l := dice.Perm(below)[:n]
		slices.Sort(l)
		return l
	}
	var out [][]api.Post
	for range many {
		var l []api.Post
		for _, d := range some(64, dice.Intn(65)) {
			l = append(l, api.Post{Doc: d, At: some(120, 1+dice.Intn(5)*dice.Intn(30))})
		}
		out = append(out, l)
	}
	return out
}

// beyond are postings that may not be.
func beyond() [][]api.Post {
	out := [][]api.Post{
		at(-1, 0), at(64, 0), at(math.MinInt, 0), at(math.MaxInt, 0), at(65, 1, 2),
		at(1), {{Doc: 1, At: []int{}}}, {{}}, make([]api.Post, 2),
		at(1, -1), at(1, 120), at(1, math.MinInt), at(1, math.MaxInt), at(1, -1, 0), at(1, 119, 120), at(1, 0, math.MaxInt),
		at(1, 2, 2), at(1, 3, 2), at(1, 0, 1, 1), at(1, 0, 2, 1), at(1, 5, 4, 6), at(1, 119, 0),
		at(1, count(0, 121, 1)...), at(1, count(-1, 121, 1)...), at(1, make([]int, 120)...), at(1, count(0, 2001, 1)...),
		of(1, 1), of(2, 1), of(0, 1, 1), of(0, 2, 1), of(63, 0), of(5, 4, 6), of(-1, 0), of(63, 64),
		of(count(0, 65, 1)...), of(count(-1, 65, 1)...), of(make([]int, 64)...), of(append(count(0, 64, 1), 63)...), of(count(0, 200, 1)...),
	}
	for _, n := range []int{1, 4, 5, 8, 9, 64} { // a fault of the first one and of the last one alone
		for _, i := range []int{0, n - 1} {
			for _, p := range []api.Post{{Doc: i}, {Doc: i, At: []int{4, 4}}, {Doc: i, At: []int{4, 3}}, {Doc: i, At: []int{-1}}, {Doc: i, At: []int{120}}, {Doc: 64, At: []int{0}}, {Doc: -1, At: []int{0}}, {Doc: i - 1, At: []int{0}}} {
				l := of(count(0, n, 1)...)
				l[i] = p
				out = append(out, l)
			}
		}
	}
	return out
}

// may is what May must answer, worked out by looking for each number that may stand there.
func may(l []api.Post) bool {
	rises := func(numbers []int, below int) bool {
		for n := range below {
			if len(numbers) > 0 && numbers[0] == n {
				numbers = numbers[1:]
			}
		}
		return len(numbers) == 0
	}
	var docs []int
	for _, p := range l {
		docs = append(docs, p.Doc)
		if len(p.At) == 0 || !rises(p.At, 120) {
			return false
		}
	}
	return rises(docs, 64)
}

// short are the bytes of a number, worked out by dividing.
func short(n int) []byte {
	if n < 128 {
		return []byte{byte(n)}
	}
	return append([]byte{byte(128 + n%128)}, short(n/128)...)
}

// told is what is told of a block: its last document, how many bytes follow, and these.
func told(last int, within []byte) []byte {
	return slices.Concat(short(last), short(len(within)), within)
}

// packed are the bytes of postings that may be, posting by posting.
func packed(l []api.Post) []byte {
	b := short(len(l))
	var within []byte
	for i, p := range l {
		step := p.Doc
		if i > 0 {
			step = p.Doc - l[i-1].Doc - 1
		}
		within = slices.Concat(within, short(step), short(len(p.At)))
		for k, n := range p.At {
			if k > 0 {
				n -= p.At[k-1] + 1
			}
			within = append(within, short(n)...)
		}
		if i%4 == 3 || i == len(l)-1 {
			b = append(b, told(p.Doc, within)...)
			within = nil
		}
	}
	return b
}

// unpacked is what Unpack must answer: what b tells, if one does not look closely, if its bytes are just b.
func unpacked(b []byte) ([]api.Post, api.Errno) {
	left := b
	number := func() int {
		n, unit := 0, 1
		for i := range left {
			n += int(left[i]%128) * unit
			unit *= 128
			if left[i] < 128 || i == 8 {
				left = left[i+1:]
				return n
			}
		}
		left = nil
		return 0
	}
	many, l, doc := number(), []api.Post{}, -1
	for i := 0; i < many && len(left) > 0; i++ {
		if i%4 == 0 {
			number()
			number()
		}
		doc += number() + 1
		p, place := api.Post{Doc: doc}, -1
		for k := number(); k > 0 && len(left) > 0; k-- {
			place += number() + 1
			p.At = append(p.At, place)
		}
		l = append(l, p)
	}
	if !may(l) || !bytes.Equal(packed(l), b) {
		return nil, api.ErrForm
	}
	return l, api.OK
}

// same is what Same must answer, worked out by laying all numbers of postings, with how many there are, in one row.
func same(a, b []api.Post) bool {
	row := func(l []api.Post) []int {
		var r []int
		for _, p := range l {
			r = append(append(r, p.Doc, len(p.At)), p.At...)
		}
		return r
	}
	return slices.Equal(row(a), row(b))
}

// copied are the same postings, of which nothing is shared.
func copied(l []api.Post) []api.Post {
	m := slices.Clone(l)
	for i := range m {
		m[i].At = slices.Clone(m[i].At)
	}
	return m
}

func wantPut(t *testing.T, l []api.Post, doc, place int, want []api.Post, e api.Errno) {
	t.Helper()
	was := copied(l)
	got, gotE := post.Put(l, doc, place)
	if !same(got, want) || gotE != e {
		t.Errorf("Put(%v, %d, %d): %v, %d; want %v, %d", l, doc, place, got, gotE, want, e)
	}
	if !same(l, was) {
		t.Errorf("Put(%v, %d, %d) made %v of it", was, doc, place, l)
	}
}

func wantPack(t *testing.T, l []api.Post, want []byte, e api.Errno) {
	t.Helper()
	if got, gotE := post.Pack(l); !bytes.Equal(got, want) || gotE != e {
		t.Errorf("Pack(%v): %v, %d; want %v, %d", l, got, gotE, want, e)
	}
}

func wantUnpack(t *testing.T, b []byte, want []api.Post, e api.Errno) {
	t.Helper()
	if got, gotE := post.Unpack(b); !same(got, want) || gotE != e {
		t.Errorf("Unpack(%v): %v, %d; want %v, %d", b, got, gotE, want, e)
	}
}

func wantSeek(t *testing.T, b []byte, doc int, want api.Post, blocks int, e api.Errno) {
	t.Helper()
	got, gotBlocks, gotE := post.Seek(b, doc)
	if got.Doc != want.Doc || !slices.Equal(got.At, want.At) || gotBlocks != blocks || gotE != e {
		t.Errorf("Seek(%v, %d): %v, %d, %d; want %v, %d, %d", b, doc, got, gotBlocks, gotE, want, blocks, e)
	}
}

// wantForm asks that no postings have these bytes, whatever is looked for.
func wantForm(t *testing.T, b []byte) {
	t.Helper()
	wantUnpack(t, b, nil, api.ErrForm)
	for _, doc := range []int{math.MinInt, -1, 0, 3, 63, 64, math.MaxInt} {
		wantSeek(t, b, doc, api.Post{}, 0, api.ErrForm)
	}
}

// wantRead asks for what the words say of b, whatever it is.
func wantRead(t *testing.T, b []byte) {
	t.Helper()
	l, e := unpacked(b)
	wantUnpack(t, b, l, e)
	switch {
	case e != api.OK:
		wantSeek(t, b, 0, api.Post{}, 0, e)
		wantSeek(t, b, 64, api.Post{}, 0, e)
	case len(l) == 0:
		wantSeek(t, b, 0, api.Post{}, 0, api.ErrNone)
	default:
		wantSeek(t, b, 0, l[0], 0, api.OK)
	}
}

// P6.1: postings that may be, at all edges.
func TestMay(t *testing.T) {
	for _, l := range slices.Concat(edges(), mixed(200)) {
		if !may(l) || !post.May(l) {
			t.Errorf("%v may be", l)
		}
	}
}

// P6.1: postings that may not be, of a document, or of a place.
func TestMayNot(t *testing.T) {
	for _, l := range beyond() {
		if may(l) || post.May(l) {
			t.Errorf("%v may not be", l)
		}
	}
}

// P6.1: all postings of few documents and places, the ones beyond the limits among them.
func TestMayAll(t *testing.T) {
	var lists [][]int
	numbers := []int{-1, 0, 1, 119, 120}
	for _, a := range numbers {
		lists = append(lists, []int{a})
		for _, b := range numbers {
			lists = append(lists, []int{a, b})
		}
	}
	lists = append(lists, nil)
	for _, one := range []int{-1, 0, 1, 62, 63, 64} {
		for _, other := range []int{-1, 0, 1, 62, 63, 64} {
			for _, a := range lists {
				for _, b := range lists {
					l := []api.Post{{Doc: one, At: a}, {Doc: other, At: b}}
					if got, want := post.May(l), may(l); got != want {
						t.Errorf("May(%v): %v", l, got)
					}
				}
			}
		}
	}
}

// P6.1: each posting is found at its place, and nothing else is.
func TestFind(t *testing.T) {
	for _, l := range slices.Concat(edges(), mixed(50)) {
		for doc := -2; doc < 67; doc++ {
			want := slices.IndexFunc(l, func(p api.Post) bool { return p.Doc == doc })
			if got := post.Find(l, doc); got != want {
				t.Errorf("Find(%v, %d): %d; want %d", l, doc, got, want)
			}
		}
		for _, doc := range []int{math.MinInt, -64, 128, math.MaxInt} {
			if got := post.Find(l, doc); got != -1 {
				t.Errorf("Find(%v, %d): %d", l, doc, got)
			}
		}
	}
}

// P6.1: in postings that may not be nothing is found, even if it is there.
func TestFindNot(t *testing.T) {
	for _, l := range beyond() {
		docs := []int{math.MinInt, -1, 0, 1, 63, 64, math.MaxInt}
		for _, p := range l {
			docs = append(docs, p.Doc)
		}
		for _, doc := range docs {
			if got := post.Find(l, doc); got != -1 {
				t.Errorf("Find(%v, %d): %d; they may not be", l, doc, got)
			}
		}
	}
}

// with are the postings of l and of one place more, by all documents and places that there are.
func with(l []api.Post, doc, place int) []api.Post {
	var out []api.Post
	for d := range 64 {
		var places []int
		for n := range 120 {
			is := d == doc && n == place
			for _, p := range l {
				is = is || p.Doc == d && slices.Contains(p.At, n)
			}
			if is {
				places = append(places, n)
			}
		}
		if len(places) > 0 {
			out = append(out, api.Post{Doc: d, At: places})
		}
	}
	return out
}

// P6.1: a place is put where it belongs: ahead, between, behind, into a posting or as a new one.
func TestPut(t *testing.T) {
	wantPut(t, nil, 0, 0, at(0, 0), api.OK)
	wantPut(t, []api.Post{}, 63, 119, at(63, 119), api.OK)
	wantPut(t, at(3, 0, 2), 3, 1, at(3, 0, 1, 2), api.OK)
	wantPut(t, at(3, 1, 2), 3, 0, at(3, 0, 1, 2), api.OK)
	wantPut(t, at(3, 0, 2), 3, 119, at(3, 0, 2, 119), api.OK)
	wantPut(t, at(3, 0), 2, 0, []api.Post{{Doc: 2, At: []int{0}}, {Doc: 3, At: []int{0}}}, api.OK)
	wantPut(t, at(3, 0), 4, 0, []api.Post{{Doc: 3, At: []int{0}}, {Doc: 4, At: []int{0}}}, api.OK)
	wantPut(t, of(0, 63), 30, 5, slices.Concat(of(0), at(30, 5), of(63)), api.OK)
	for _, l := range slices.Concat(edges(), mixed(10)) {
		for _, doc := range []int{0, 1, 3, 4, 31, 62, 63} {
			for _, place := range []int{0, 1, 60, 118, 119} {
				i := slices.IndexFunc(l, func(p api.Post) bool { return p.Doc == doc && slices.Contains(p.At, place) })
				if i >= 0 {
					wantPut(t, l, doc, place, l, api.ErrThere)
				} else {
					wantPut(t, l, doc, place, with(l, doc, place), api.OK)
				}
			}
		}
	}
}

// P6.1: a place that is there already is not put again; the same one of another document is.
func TestPutThere(t *testing.T) {
	for _, l := range slices.Concat(edges(), mixed(10)) {
		for _, p := range l {
			for _, i := range []int{0, len(p.At) / 2, len(p.At) - 1} {
				wantPut(t, l, p.Doc, p.At[i], l, api.ErrThere)
			}
		}
	}
	wantPut(t, at(3, 0, 2), 5, 2, slices.Concat(at(3, 0, 2), at(5, 2)), api.OK)
}

// P6.1: beyond the limits nothing is put, and what was handed in is answered.
func TestPutBeyond(t *testing.T) {
	for _, l := range edges() {
		for _, doc := range []int{math.MinInt, -64, -1, 64, 65, 119, math.MaxInt} {
			for _, place := range []int{0, 2, 119, -1, 120} {
				wantPut(t, l, doc, place, l, api.ErrArg)
			}
		}
		for _, place := range []int{math.MinInt, -120, -1, 120, 121, math.MaxInt} {
			for _, doc := range []int{0, 3, 63} {
				wantPut(t, l, doc, place, l, api.ErrArg)
			}
		}
	}
}

// P6.1, R2: into postings that may not be nothing is put, and they are answered as they are; ErrArg is told first, also of a place that is there.
func TestPutInto(t *testing.T) {
	for _, l := range beyond() {
		wantPut(t, l, 0, 0, l, api.ErrArg)
		wantPut(t, l, 63, 119, l, api.ErrArg)
		wantPut(t, l, 64, 0, l, api.ErrArg)
		for _, p := range l[:min(len(l), 5)] {
			for _, n := range p.At[:min(len(p.At), 5)] {
				wantPut(t, l, p.Doc, n, l, api.ErrArg)
			}
		}
	}
}

// P6.1: all parts are held against each other, in order, of postings that may not be too.
func TestSame(t *testing.T) {
	all := slices.Concat(edges(), mixed(5), beyond(), [][]api.Post{of(1, 2), of(2, 1), of(1), of(1, 2, 3), at(1, 1), at(1, 8, 1), at(1, 1, 8, 9), at(2, 1, 8)})
	for _, a := range all {
		for _, b := range all {
			if got, want := post.Same(a, b), same(a, b); got != want {
				t.Errorf("Same(%v, %v): %v", a, b, got)
			}
		}
		if !post.Same(a, copied(a)) {
			t.Errorf("%v is the same as it", a)
		}
	}
	if !post.Same(nil, []api.Post{}) || !post.Same([]api.Post{}, nil) || !post.Same(at(1), []api.Post{{Doc: 1, At: []int{}}}) {
		t.Error("no elements are the same as none")
	}
	if post.Same(nil, []api.Post{{}}) || post.Same([]api.Post{{}}, nil) {
		t.Error("a posting is not the same as none")
	}
}

// P6.1: one number that is another one, at any place, or one more or less, and they are not the same.
func TestSameNot(t *testing.T) {
	for _, l := range slices.Concat(edges(), mixed(5)) {
		unlike := [][]api.Post{append(copied(l), api.Post{Doc: 70, At: []int{1}})}
		for i, p := range l {
			doc, place, more := copied(l), copied(l), copied(l)
			doc[i].Doc++
			place[i].At[len(p.At)/2]++
			more[i].At = append(more[i].At, 119)
			unlike = append(unlike, doc, place, more, slices.Delete(copied(l), i, i+1))
		}
		for _, m := range unlike {
			if post.Same(l, m) || post.Same(m, l) {
				t.Errorf("%v is not the same as %v", l, m)
			}
		}
	}
}

// P6.2: how many there are, and block by block its last document, how many bytes follow, and these.
func TestPack(t *testing.T) {
	five := of(2, 3, 5, 9, 63)
	for _, c := range []struct {
		l []api.Post
		b []byte
	}{
		{nil, []byte{0}},
		{[]api.Post{}, []byte{0}},
		{at(3, 0, 2), []byte{1, 3, 4, 3, 2, 0, 1}},
		{at(0, 0), []byte{1, 0, 3, 0, 1, 0}},
		{at(63, 119), []byte{1, 63, 3, 63, 1, 119}},
		{at(0, 0, 119), []byte{1, 0, 4, 0, 2, 0, 118}},
		{of(0, 63), []byte{2, 63, 8, 0, 2, 0, 6, 62, 2, 63, 6}},
		{five[:4], []byte{4, 9, 16, 2, 2, 2, 6, 0, 2, 3, 6, 1, 2, 5, 6, 3, 2, 9, 6}},
		{five, []byte{5, 9, 16, 2, 2, 2, 6, 0, 2, 3, 6, 1, 2, 5, 6, 3, 2, 9, 6, 63, 4, 53, 2, 63, 6}},
		{at(5, count(0, 120, 1)...), slices.Concat([]byte{1, 5, 122, 5, 120}, make([]byte, 120))},
		{slices.Concat(at(5, count(0, 120, 1)...), at(6, 0, 1, 2, 3)), slices.Concat([]byte{2, 6, 128, 1, 5, 120}, make([]byte, 120), []byte{0, 4, 0, 0, 0, 0})},
	} {
		wantPack(t, c.l, c.b, api.OK)
		wantUnpack(t, c.b, c.l, api.OK)
		if !bytes.Equal(packed(c.l), c.b) {
			t.Errorf("the test's own bytes of %v: %v; want %v", c.l, packed(c.l), c.b)
		}
	}
	for _, l := range slices.Concat(edges(), mixed(200)) {
		wantPack(t, l, packed(l), api.OK)
	}
}

// P6.2: postings that may not be have no bytes.
func TestPackNot(t *testing.T) {
	for _, l := range beyond() {
		wantPack(t, l, nil, api.ErrArg)
	}
}

// P6.2, P6.4: what is packed is unpacked as it, and no two have the same bytes.
func TestPackedAgain(t *testing.T) {
	seen := map[string][]api.Post{}
	for _, l := range slices.Concat(edges(), mixed(200)) {
		b, e := post.Pack(l)
		if e != api.OK {
			t.Errorf("Pack(%v): %d", l, e)
		}
		m, e := post.Unpack(b)
		if !post.Same(m, l) || e != api.OK {
			t.Errorf("%v is unpacked as %v, %d", l, m, e)
		}
		if other, is := seen[string(b)]; is && !post.Same(other, l) {
			t.Errorf("%v and %v have the same bytes", other, l)
		}
		seen[string(b)] = l
		wantRead(t, b)
	}
}

// P6.2: of every document and every place alone.
func TestUnpackOne(t *testing.T) {
	for doc := range 130 {
		for place := range 130 {
			b := slices.Concat([]byte{1}, told(doc, slices.Concat(short(doc), []byte{1}, short(place))))
			if doc < 64 && place < 120 {
				wantUnpack(t, b, at(doc, place), api.OK)
				wantSeek(t, b, doc, at(doc, place)[0], 0, api.OK)
			} else {
				wantUnpack(t, b, nil, api.ErrForm)
			}
		}
	}
}

// P6.2, P6.3: every short row of few bytes is read as the words say.
func TestUnpackRows(t *testing.T) {
	var grow func(b []byte, most int, signs []byte)
	grow = func(b []byte, most int, signs []byte) {
		wantRead(t, b)
		if len(b) == most {
			return
		}
		for _, c := range signs {
			grow(append(slices.Clone(b), c), most, signs)
		}
	}
	every := make([]byte, 256)
	for i := range every {
		every[i] = byte(i)
	}
	grow(nil, 2, every)
	grow(nil, 7, []byte{0, 1, 3, 4, 128})
	grow([]byte{2}, 9, []byte{0, 1, 2, 6})
	for doc := range 256 { // the told document and the one that is there
		for step := range 256 {
			wantRead(t, []byte{1, byte(doc), 3, byte(step), 1, 0})
		}
	}
}

// P6.2, P6.3: bytes that are cut off anywhere, or have more behind them, are nobody's.
func TestUnpackLength(t *testing.T) {
	for _, l := range slices.Concat(edges(), mixed(20)) {
		b := packed(l)
		for cut := range len(b) {
			wantUnpack(t, b[:cut], nil, api.ErrForm)
		}
		for _, cut := range []int{0, len(b) / 2, len(b) - 1} {
			wantForm(t, b[:cut])
		}
		for _, more := range [][]byte{{0}, {1}, {128}, {255}, {0, 0}, told(63, []byte{0, 1, 0}), b} {
			wantForm(t, slices.Concat(b, more))
		}
	}
	wantForm(t, nil)
	wantForm(t, []byte{})
}

// P6.2: each byte that is another one, that is not there, or that is there twice; and each that stands ahead of it.
func TestUnpackTurned(t *testing.T) {
	for _, l := range [][]api.Post{nil, at(3, 0, 2), at(0, 0), at(63, 119), of(0, 63), of(count(0, 4, 1)...), of(count(0, 5, 3)...), of(count(56, 8, 1)...), of(count(1, 9, 4)...), slices.Concat(at(5, count(0, 120, 1)...), at(6, 0, 1, 2, 3))} {
		b := packed(l)
		for i := range b {
			for c := range 256 {
				turned := slices.Clone(b)
				turned[i] = byte(c)
				wantRead(t, turned)
				wantRead(t, slices.Insert(slices.Clone(b), i, byte(c)))
			}
			wantRead(t, slices.Delete(slices.Clone(b), i, i+1))
			for k := range i {
				swapped := slices.Clone(b)
				swapped[i], swapped[k] = b[k], b[i]
				wantRead(t, swapped)
			}
		}
	}
}

// blocks are the bytes of postings whose blocks have less than 128 bytes each, every block being told by what is handed in.
func blocks(l []api.Post, tell func(i, last int, within []byte) []byte) []byte {
	own := packed(l)
	b, rest := own[:1:1], own[1:]
	for i := 0; len(rest) > 0; i++ {
		last, end := int(rest[0]), 2+int(rest[1])
		b = append(b, tell(i, last, rest[2:end])...)
		rest = rest[end:]
	}
	return b
}

// P6.2, P6.3: a block whose told last document is another one, in each of the blocks.
func TestUnpackLast(t *testing.T) {
	for _, n := range []int{1, 3, 4, 5, 8, 9, 16, 40} {
		l := of(count(1, n, 1)...)
		if b := blocks(l, func(_, last int, within []byte) []byte { return told(last, within) }); !bytes.Equal(b, packed(l)) {
			t.Fatalf("the test's own bytes of %v: %v", l, b)
		}
		for bad := range (n + 3) / 4 {
			for _, by := range []int{-1, 1, 2, 64, 1 << 20, 1 << 34} {
				wantForm(t, blocks(l, func(i, last int, within []byte) []byte {
					if i == bad {
						last += by
					}
					return told(last, within)
				}))
			}
		}
	}
}

// P6.2, P6.3: a block whose told number of bytes is another one, with as many bytes or with those that were there.
func TestUnpackSize(t *testing.T) {
	for _, n := range []int{1, 3, 4, 5, 8, 9, 16, 40} {
		l := of(count(1, n, 1)...)
		for bad := range (n + 3) / 4 {
			for _, by := range []int{-4, -2, -1, 1, 2, 4, 100, 1 << 20, 1 << 34} {
				wantForm(t, blocks(l, func(i, last int, within []byte) []byte {
					if i != bad {
						return told(last, within)
					}
					return slices.Concat(short(last), short(max(0, len(within)+by)), within)
				}))
			}
			for _, more := range [][]byte{{0}, {128}, {0, 1, 0}, {0, 2, 1, 6}} {
				wantForm(t, blocks(l, func(i, last int, within []byte) []byte {
					if i == bad {
						within = slices.Concat(within, more)
					}
					return told(last, within)
				}))
			}
			wantForm(t, blocks(l, func(i, last int, within []byte) []byte {
				if i == bad {
					within = within[:len(within)-1]
				}
				return told(last, within)
			}))
		}
	}
}

// P6.2, P6.3: a posting may not stand in the block ahead, or in one behind, and no block may be empty.
func TestUnpackBlocks(t *testing.T) {
	one := func(step, doc int) []byte { return []byte{byte(step), 1, byte(doc)} }
	five := func(first int) []byte {
		var a, b []byte
		for i := range 5 {
			if i < first {
				a = append(a, one(0, i)...)
			} else {
				b = append(b, one(0, i)...)
			}
		}
		return slices.Concat([]byte{5}, told(first-1, a), told(4, b))
	}
	l, e := post.Unpack(five(4))
	if e != api.OK || len(l) != 5 {
		t.Fatalf("%v, %d", l, e)
	}
	for _, first := range []int{1, 2, 3} {
		wantForm(t, five(first))
	}
	all := slices.Concat(one(0, 0), one(0, 1), one(0, 2), one(0, 3), one(0, 4))
	wantForm(t, slices.Concat([]byte{5}, told(4, all)))
	wantForm(t, slices.Concat([]byte{5}, told(4, all), told(4, nil)))
	wantForm(t, slices.Concat([]byte{0}, told(0, nil)))
	wantForm(t, slices.Concat([]byte{4}, told(3, all[:12]), told(3, nil)))
	wantForm(t, slices.Concat([]byte{4}, told(0, nil), told(3, all[:12])))
	wantForm(t, slices.Concat([]byte{5}, told(3, all[:12]), told(4, one(4, 4)))) // from the block's own beginning
	wantForm(t, slices.Concat([]byte{5}, told(3, all[:12]), told(8, one(3, 4))))
}

// P6.2, P6.3: a count that is another one, also one beyond what may be, with as many postings or not.
func TestUnpackCount(t *testing.T) {
	for _, n := range sizes {
		own := packed(of(count(0, n, 1)...))
		for many := range 130 {
			if many != n {
				wantForm(t, slices.Concat(short(many), own[1:]))
			}
		}
		for _, many := range []int{256, 300, 2000, 2001, 1 << 20, 1 << 34, api.MaxInt} {
			wantForm(t, slices.Concat(short(many), own[1:]))
		}
	}
	for _, n := range []int{65, 66, 68, 69, 128, 200} {
		wantForm(t, packed(of(count(0, n, 1)...)))
	}
}

// P6.2, P6.3: documents and places beyond their limits, and postings without a place, though written as others are.
func TestUnpackBeyond(t *testing.T) {
	for _, l := range [][]api.Post{
		at(64, 0), at(65, 0), at(128, 0), at(1<<20, 0), at(1<<34, 0), at(api.MaxInt, 0), of(0, 64), of(63, 64), of(count(60, 5, 1)...), of(0, 1, 2, 3, 64),
		of(0, api.MaxInt), of(api.MaxInt, 2*api.MaxInt),
		at(1, 120), at(1, 121), at(1, 128), at(1, 1<<20), at(1, api.MaxInt), at(1, 119, 120), at(1, 0, 120), at(1, count(0, 121, 1)...), at(1, count(1, 120, 1)...), at(1, count(0, 2000, 1)...), at(1, count(0, 2001, 1)...),
		at(1), at(0), slices.Concat(of(0), at(1)), slices.Concat(of(0, 1, 2, 3), at(4)), slices.Concat(at(0), of(1)), slices.Concat(of(0, 1, 2), at(3), of(4)),
		slices.Concat(of(0, 1, 2, 3), at(4, 120)), slices.Concat(at(0, 120), of(1, 2, 3, 4)),
	} {
		b := packed(l)
		if may(l) {
			t.Errorf("%v may be", l)
		}
		wantForm(t, b)
	}
}

// P6.2, R8: each number but in its shortest bytes is read by nothing, though all that is told fits.
func TestUnpackShortest(t *testing.T) {
	long := func(n, width int) []byte {
		var b []byte
		for range width - 1 {
			b = append(b, byte(128+n%128))
			n /= 128
		}
		return append(b, byte(n))
	}
	parts := []int{1, 3, 0, 3, 2, 0, 1} // what stands within, the third one being how many bytes these are
	for which := range parts {
		for _, width := range []int{1, 2, 3, 5, 6, 10} {
			var within []byte
			write := func(i, n int) []byte {
				if i == which {
					return long(n, width)
				}
				return short(n)
			}
			for i := 3; i < len(parts); i++ {
				within = append(within, write(i, parts[i])...)
			}
			b := slices.Concat(write(0, 1), write(1, 3), write(2, len(within)), within)
			if width == 1 {
				wantUnpack(t, b, at(3, 0, 2), api.OK)
			} else {
				wantForm(t, b)
			}
		}
	}
}

// P6.3: the first posting from a document on, at all documents, and all around them.
func TestSeek(t *testing.T) {
	for _, l := range slices.Concat(edges(), mixed(50)) {
		b := packed(l)
		docs := append(count(-2, 70, 1), math.MinInt, math.MinInt32, -64, 128, 1<<34, math.MaxInt)
		for _, doc := range docs {
			want, ahead, e := api.Post{}, 0, api.ErrNone
			for i := len(l) - 1; i >= 0; i-- {
				if l[i].Doc >= doc {
					want, ahead, e = l[i], i/4, api.OK
				}
			}
			wantSeek(t, b, doc, want, ahead, e)
		}
	}
}

// P6.3: how many blocks stand ahead, at the blocks' edges.
func TestSeekBlocks(t *testing.T) {
	l := of(count(2, 9, 5)...) // 2, 7, 12, 17; 22, 27, 32, 37; 42
	b, _ := post.Pack(l)
	for _, c := range []struct {
		doc, place, blocks int
		e                  api.Errno
	}{
		{-1, 0, 0, api.OK}, {0, 0, 0, api.OK}, {1, 0, 0, api.OK}, {2, 0, 0, api.OK}, {3, 1, 0, api.OK}, {7, 1, 0, api.OK},
		{13, 3, 0, api.OK}, {17, 3, 0, api.OK}, {18, 4, 1, api.OK}, {21, 4, 1, api.OK}, {22, 4, 1, api.OK}, {23, 5, 1, api.OK},
		{37, 7, 1, api.OK}, {38, 8, 2, api.OK}, {42, 8, 2, api.OK}, {43, 0, 0, api.ErrNone}, {63, 0, 0, api.ErrNone}, {64, 0, 0, api.ErrNone},
	} {
		want := l[c.place]
		if c.e != api.OK {
			want = api.Post{}
		}
		wantSeek(t, b, c.doc, want, c.blocks, c.e)
	}
	full, _ := post.Pack(of(count(0, 64, 1)...))
	for doc := range 64 {
		wantSeek(t, full, doc, of(doc)[0], doc/4, api.OK)
	}
	for _, doc := range []int{-1, 0, 63, 64} {
		wantSeek(t, []byte{0}, doc, api.Post{}, 0, api.ErrNone)
	}
}

// P6.3, R2: of bytes that are nobody's the form is told, also where nothing would be found, or what is looked for stands ahead of the fault.
func TestSeekForm(t *testing.T) {
	b := packed(of(count(0, 9, 1)...))
	wantForm(t, append(slices.Clone(b), 0))
	wantForm(t, b[:len(b)-1])
	turned := slices.Clone(b)
	turned[len(b)-5]++ // how many bytes the last block has
	wantForm(t, turned)
	wantForm(t, []byte{0, 0})
	wantForm(t, nil)
}

// P6.4: in whatever order places are put the postings are the same: all orders of a few, and some of many.
func TestPutOrders(t *testing.T) {
	type pair struct{ doc, place int }
	put := func(pairs []pair) []api.Post {
		var l []api.Post
		for _, p := range pairs {
			m, e := post.Put(l, p.doc, p.place)
			if e != api.OK || !post.May(m) {
				t.Fatalf("Put(%v, %d, %d): %v, %d", l, p.doc, p.place, m, e)
			}
			l = m
		}
		return l
	}
	var orders func(done, left []pair, want []api.Post)
	orders = func(done, left []pair, want []api.Post) {
		if len(left) == 0 {
			if l := put(done); !post.Same(l, want) {
				t.Errorf("%v: %v; want %v", done, l, want)
			}
		}
		for i, p := range left {
			orders(append(slices.Clone(done), p), slices.Delete(slices.Clone(left), i, i+1), want)
		}
	}
	orders(nil, []pair{{3, 0}, {3, 2}, {3, 119}, {0, 5}, {63, 0}, {4, 2}}, slices.Concat(at(0, 5), at(3, 0, 2, 119), at(4, 2), at(63, 0)))

	dice := rand.New(rand.NewSource(64))
	for _, l := range mixed(10) {
		var pairs []pair
		for _, p := range l {
			for _, n := range p.At {
				pairs = append(pairs, pair{p.Doc, n})
			}
		}
		pairs = pairs[:min(len(pairs), 200)]
		var want []api.Post
		for _, p := range pairs {
			want = with(want, p.doc, p.place)
		}
		for range 3 {
			dice.Shuffle(len(pairs), func(i, k int) { pairs[i], pairs[k] = pairs[k], pairs[i] })
			if got := put(pairs); !post.Same(got, want) || !same(got, want) {
				t.Errorf("%v; want %v", got, want)
			}
		}
	}
}

// P6.1: all documents and all places can be put, and then each of them is there.
func TestPutAll(t *testing.T) {
	var l []api.Post
	for i := range 64 {
		doc := i * 37 % 64
		for k := range 120 {
			m, e := post.Put(l, doc, k*71%120)
			if e != api.OK {
				t.Fatalf("%d at %d: %d", doc, k*71%120, e)
			}
			l = m
		}
	}
	if len(l) != 64 || !post.May(l) {
		t.Fatalf("%d postings", len(l))
	}
	for doc := range 64 {
		if !slices.Equal(l[doc].At, count(0, 120, 1)) || l[doc].Doc != doc || post.Find(l, doc) != doc {
			t.Errorf("%v", l[doc])
		}
	}
	wantPut(t, l, 0, 0, l, api.ErrThere)
	wantPut(t, l, 63, 119, l, api.ErrThere)
	wantPack(t, l, packed(l), api.OK)
	wantRead(t, packed(l))
}

// The chapter's example.
func TestExample(t *testing.T) {
	var l []api.Post
	for _, place := range []int{2, 0} {
		m, e := post.Put(l, 3, place)
		if e != api.OK {
			t.Errorf("%d", e)
		}
		l = m
	}
	b, e := post.Pack(l)
	if !bytes.Equal(b, []byte{1, 3, 4, 3, 2, 0, 1}) || e != api.OK {
		t.Errorf("%v, %d", b, e)
	}
}

// R3: what lies behind a list's length is neither read nor changed.
func TestArgumentsStay(t *testing.T) {
	places := []int{0, 2, 1, 120, 7}
	back := []api.Post{{Doc: 3, At: places[:2]}, {Doc: 9, At: []int{4}}, {Doc: 1}, {Doc: 64}}
	was, placesWas := copied(back), slices.Clone(places)
	l := back[:2]
	if !post.May(l) || post.Find(l, 9) != 1 || post.Find(l, 1) != -1 || !post.Same(l, []api.Post{{Doc: 3, At: []int{0, 2}}, {Doc: 9, At: []int{4}}}) {
		t.Error("more was read than the list has")
	}
	for _, doc := range []int{0, 3, 5, 9, 12, 64} {
		for _, place := range []int{0, 1, 4, 119, 120} {
			post.Put(l, doc, place)
			post.Put(back, doc, place)
		}
	}
	wantPack(t, l, []byte{2, 9, 7, 3, 2, 0, 1, 5, 1, 4}, api.OK)
	if !same(back, was) || !slices.Equal(places, placesWas) {
		t.Errorf("the postings were changed: %v, %v", back, places)
	}

	b := []byte{1, 3, 4, 3, 2, 0, 1, 0, 7}
	wantForm(t, b[:6])
	wantUnpack(t, b[:7], at(3, 0, 2), api.OK)
	wantSeek(t, b[:7], 2, at(3, 0, 2)[0], 0, api.OK)
	wantForm(t, b[:8])
	if !bytes.Equal(b, []byte{1, 3, 4, 3, 2, 0, 1, 0, 7}) {
		t.Errorf("the bytes were changed: %v", b)
	}
}

// turn changes all that can be reached from postings, also behind the lists' lengths.
func turn(l []api.Post) {
	for i := range l {
		turnPlaces(l[i].At)
	}
	l = l[:cap(l)]
	for i := range l {
		l[i] = api.Post{Doc: -7}
	}
}

// turnPlaces changes all that can be reached from a list.
func turnPlaces(at []int) {
	at = at[:cap(at)]
	for i := range at {
		at[i] = -8
	}
}

// R3: an answer is the caller's own, also one beside an error; and no two lists of it share any memory.
func TestAnswersAreNew(t *testing.T) {
	for _, l := range slices.Concat(edges(), mixed(5), beyond()[:20]) {
		was := copied(l)
		for _, doc := range []int{-1, 0, 3, 5, 63, 64} {
			for _, place := range []int{0, 1, 2, 3, 119, 120} {
				m, _ := post.Put(l, doc, place)
				turn(m)
				if !same(l, was) {
					t.Fatalf("%v was changed: %v", was, l)
				}
				m, _ = post.Put(l, doc, place)
				kept := copied(m)
				for i := range m { // what grows in one list is not to be seen in another one
					turnPlaces(append(m[i].At, 5)[len(m[i].At):])
				}
				if !same(m, kept) {
					t.Fatalf("lists of %v share memory", kept)
				}
			}
		}
	}
}

// R3: two lists that share memory as arguments do not share it in the answer.
func TestSharedPlaces(t *testing.T) {
	places := []int{1, 5}
	l := []api.Post{{Doc: 2, At: places}, {Doc: 4, At: places}}
	m, e := post.Put(l, 4, 3)
	if e != api.OK || !same(m, slices.Concat(at(2, 1, 5), at(4, 1, 3, 5))) || !same(l, slices.Concat(at(2, 1, 5), at(4, 1, 5))) {
		t.Errorf("%v of %v, %d", m, l, e)
	}
	m, _ = post.Put(l, 4, 5)
	m[0].At[0] = 0
	if m[1].At[0] != 1 || places[0] != 1 {
		t.Errorf("%v of %v", m, l)
	}
}

// R3, R5: what is packed, unpacked and looked for is new memory, and the next answer is the same.
func TestBytesAreNew(t *testing.T) {
	for _, l := range slices.Concat(edges(), mixed(10)) {
		was, own := copied(l), packed(l)
		for range 2 {
			b, e := post.Pack(l)
			if !bytes.Equal(b, own) || e != api.OK || !same(l, was) {
				t.Fatalf("Pack(%v): %v, %d", was, b, e)
			}
			m, _ := post.Unpack(b)
			turn(m)
			p, _, _ := post.Seek(b, 0)
			turnPlaces(p.At)
			if !bytes.Equal(b, own) {
				t.Fatalf("%v was changed: %v", own, b)
			}
			m, _ = post.Unpack(b)
			p, _, _ = post.Seek(b, 0)
			clear(b[:cap(b)])
			if !same(m, was) || len(was) > 0 && !slices.Equal(p.At, was[0].At) {
				t.Fatalf("%v was changed: %v, %v", was, m, p)
			}
			for i := range m {
				turnPlaces(append(m[i].At, 5)[len(m[i].At):])
			}
			if !same(m, was) {
				t.Fatalf("lists of %v share memory: %v", was, m)
			}
		}
	}
}

// P1: of zero values and of rows of any bytes no call panics, and each answers as the words say.
func TestAnyBytes(t *testing.T) {
	dice := rand.New(rand.NewSource(1))
	for range 20000 {
		b := make([]byte, dice.Intn(40))
		for i := range b {
			b[i] = byte(dice.Intn([]int{3, 8, 70, 256}[dice.Intn(4)]))
		}
		wantRead(t, b)
	}
	for _, l := range slices.Concat(edges(), mixed(20)) {
		for range 50 {
			b := packed(l)
			for range 1 + dice.Intn(3) {
				b[dice.Intn(len(b))] = byte(dice.Intn(256))
			}
			wantRead(t, b)
		}
	}
}
