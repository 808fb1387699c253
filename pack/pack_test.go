package pack_test

import (
	"bytes"
	"encoding/binary"
	"hash/crc32"
	"math"
	"math/rand"
	"slices"
	"strconv"
	"strings"
	"testing"

	"catchword/api"
	"catchword/pack"
	"catchword/seg"
)

func card(id string, key int, w ...string) api.Card { return api.Card{Id: id, Key: key, W: w} }

// at is a term.
func at(word string, l ...api.Post) api.Term { return api.Term{T: word, P: l} }

// on is a posting.
func on(doc int, places ...int) api.Post { return api.Post{Doc: doc, At: places} }

// numbered are unlike words, as many as many says, from the first number on.
func numbered(first, many int) []string {
	var l []string
	for i := range many {
		l = append(l, "w"+strconv.Itoa(first+i))
	}
	return l
}

// often is a word as often as many says.
func often(word string, many int) []string {
	var l []string
	for range many {
		l = append(l, word)
	}
	return l
}

// plain are cards of unlike ids, each with a word of its own and one of all of them.
func plain(many int) []api.Card {
	var l []api.Card
	for i := range many {
		n := strconv.Itoa(i * 37 % 101)
		l = append(l, card("i"+n, i*53%19, "all", n))
	}
	return l
}

// bare are cards without words, of keys that fall.
func bare(many int) []api.Card {
	var l []api.Card
	for i := range many {
		l = append(l, card("i"+strconv.Itoa(i), 1000-i))
	}
	return l
}

// great are cards whose segment is as long as may be, or nearly so: ids, keys and words that are as long as may be, few of which share a beginning, and as many postings as there are places.
func great() []api.Card {
	var l []api.Card
	for doc := range 64 {
		c := card(strings.Repeat("i", 14)+string([]byte{byte(255 - doc), 0}), 1<<30-doc%2)
		for place := range 120 {
			n := (doc*120 + place) % 200
			c.W = append(c.W, string([]byte{byte(n)})+strings.Repeat("\xff", 31))
		}
		l = append(l, c)
	}
	return l
}

// keyed are cards of keys that are written in one byte, in two and in more.
func keyed() []api.Card {
	var l []api.Card
	for i, key := range []int{1 << 30, 1<<30 - 1, 1 << 29, 1 << 28, 1<<28 - 1, 1 << 21, 1<<21 - 1, 1 << 14, 1<<14 - 1, 300, 129, 128, 127, 126, 2, 1, 0} {
		l = append(l, card("i"+strconv.Itoa(i), key, "a"))
	}
	return l
}

// everywhere are cards of a word that stands at every place of every document.
func everywhere(docs int) []api.Card {
	var l []api.Card
	for i := range docs {
		l = append(l, card("i"+strconv.Itoa(i), docs-i, often("a", 120)...))
	}
	return l
}

// small are cards of which a segment of few bytes is made, ordinary ones and edges.
func small() [][]api.Card {
	out := [][]api.Card{
		nil, {}, {card("x", 0)}, {card("x", 0, "a")}, {card("x", 5, "a", "b", "a"), card("y", 2, "b")}, {card("xy", 300, "b", "ab"), card("z", 2, "ab")},
		{card("x", 0), card("y", 0)}, {card("y", 3), card("x", 3, "a"), card("z", 1)}, bare(1), bare(3), plain(1), plain(2), plain(6), keyed(),
		{card("i", 0), card(strings.Repeat("i", 16), 0)}, {card(strings.Repeat("\x00", 16), 1<<30, "a"), card(strings.Repeat("\xff", 16), 0)},
		{card("\x00", 0), card("\xff", 0), card("\x00\xff", 0), card("\xff\x00", 0), card("A", 0), card("é", 0)},
		{card("x", 1<<30, "a"), card("y", 0, "a")}, {card("x", 127), card("y", 128)}, {card("x", 16383), card("y", 16384)},
		{card("x", 1, "a", strings.Repeat("a", 32), strings.Repeat("b", 32), strings.Repeat("a", 31), "b")},
		{card("x", 1, "\x00", "\xff", "\x00\x00", "\xff\x00", "a\xff", "a\x00", "a", "A", "é", " ")},
		{card("x", 1), card("y", 1, "x"), card("w", 1), card("v", 1, "x", "x")}, {card("a", 0, "a"), card("b", 0, "a"), card("c", 0, "a"), card("d", 0, "a"), card("e", 0, "a")},
	}
	return out
}

// edges are small ones, and those that are as great as may be.
func edges() [][]api.Card {
	return append(small(),
		bare(63), bare(64), plain(63), plain(64), great(), great()[:63], everywhere(1), everywhere(2), everywhere(64),
		[]api.Card{card("x", 1, numbered(0, 120)...)}, []api.Card{card("x", 1, often("a", 120)...), card("y", 0), card("w", 0, often("b", 119)...)},
		[]api.Card{card("x", 1, numbered(0, 120)...), card("y", 1, numbered(120, 80)...)}, []api.Card{card("x", 1, numbered(100, 100)...), card("y", 1, numbered(0, 120)...)},
		[]api.Card{card("x", 1, numbered(0, 120)...), card("y", 1, numbered(120, 79)...)}, []api.Card{card("x", 1, numbered(0, 127-100)...), card("y", 1, numbered(27, 101)...)},
	)
}

// mixed are cards of which a segment is made, as it happens, the same ones each time.
func mixed(many int) [][]api.Card {
	dice := rand.New(rand.NewSource(9))
	some := func(most int, of string) string {
		b := make([]byte, 1+dice.Intn(most))
		for i := range b {
			b[i] = of[dice.Intn(len(of))]
		}
		return string(b)
	}
	var out [][]api.Card
	for range many {
		var l []api.Card
		for range dice.Intn(9) {
			c := card(some(4, "ab\x00\xff"), dice.Intn(1<<(1+dice.Intn(30))))
			if slices.ContainsFunc(l, func(d api.Card) bool { return d.Id == c.Id }) {
				continue
			}
			for range dice.Intn(3) * dice.Intn(12) {
				c.W = append(c.W, some(3, "ab"))
			}
			l = append(l, c)
		}
		out = append(out, l)
	}
	return out
}

// made is the segment of cards that may be.
func made(t *testing.T, sorted bool, l ...api.Card) api.Seg {
	t.Helper()
	s, e := seg.Build(l, sorted)
	if e != api.OK {
		t.Fatalf("Build of %d cards: %d", len(l), e)
	}
	return s
}

// all are the segments of cards, sorted and not.
func all(t *testing.T, lists [][]api.Card) []api.Seg {
	t.Helper()
	var out []api.Seg
	for _, l := range lists {
		out = append(out, made(t, false, l...), made(t, true, l...))
	}
	return out
}

// copied is the same segment, of which nothing is shared.
func copied(s api.Seg) api.Seg {
	s.Ids, s.Keys, s.Lens, s.Terms = slices.Clone(s.Ids), slices.Clone(s.Keys), slices.Clone(s.Lens), slices.Clone(s.Terms)
	for i := range s.Terms {
		s.Terms[i].P = slices.Clone(s.Terms[i].P)
		for k := range s.Terms[i].P {
			s.Terms[i].P[k].At = slices.Clone(s.Terms[i].P[k].At)
		}
	}
	return s
}

// spoil changes all that a segment has, to the last place.
func spoil(s api.Seg) {
	for i := range s.Ids {
		s.Ids[i] = "spoilt"
	}
	for _, l := range [][]int{s.Keys, s.Lens} {
		for i := range l {
			l[i] = 77
		}
	}
	for i := range s.Terms {
		for k := range s.Terms[i].P {
			for m := range s.Terms[i].P[k].At {
				s.Terms[i].P[k].At[m] = 77
			}
			s.Terms[i].P[k] = api.Post{Doc: 77}
		}
		s.Terms[i] = api.Term{T: "spoilt"}
	}
}

// spoilBytes changes all bytes, and those behind them.
func spoilBytes(b []byte) {
	b = b[:cap(b)]
	for i := range b {
		b[i] ^= 85
	}
}

// short is a text of bytes that an error may tell.
func short(b []byte) string {
	if len(b) > 150 {
		return strconv.Quote(string(b[:150])) + ".. of " + strconv.Itoa(len(b))
	}
	return strconv.Quote(string(b))
}

// name is a text of a segment that an error may tell.
func name(s api.Seg) string {
	sort := "loose"
	if s.Sorted {
		sort = "sorted"
	}
	return sort + " " + strconv.Itoa(len(s.Ids)) + " documents " + strconv.Itoa(len(s.Terms)) + " words " + short([]byte(strings.Join(s.Ids, " ")))
}

// stride is how far it is from one place to the next one where all places of many bytes would take too long.
func stride(b []byte) int { return 1 + len(b)*len(b)/1000000 }

// num are the bytes of a number.
func num(n int) []byte { return binary.AppendUvarint(nil, uint64(n)) }

// sized are bytes with how many they are ahead of them.
func sized(b []byte) []byte { return append(num(len(b)), b...) }

// framed is the frame of a kind, whose sum is right, whatever is within.
func framed(kind byte, within []byte) []byte {
	b := append([]byte{70, kind}, sized(within)...)
	return binary.LittleEndian.AppendUint32(b, crc32.Checksum(b, crc32.MakeTable(crc32.Castagnoli)))
}

// wordBytes are those of words.
func wordBytes(words ...string) []byte {
	b := num(len(words))
	for i, w := range words {
		same := 0
		for i > 0 && same < len(w) && strings.HasPrefix(words[i-1], w[:same+1]) {
			same++
		}
		b = append(append(b, num(same)...), sized([]byte(w[same:]))...)
	}
	return b
}

// postBytes are those of postings, which may be any.
func postBytes(l ...api.Post) []byte {
	b := num(len(l))
	ahead := -1
	for len(l) > 0 {
		var within []byte
		n := min(4, len(l))
		for _, p := range l[:n] {
			within = append(append(within, num(p.Doc-ahead-1)...), num(len(p.At))...)
			ahead = p.Doc
			last := -1
			for _, n := range p.At {
				within = append(within, num(n-last-1)...)
				last = n
			}
		}
		b = append(append(b, num(ahead)...), sized(within)...)
		l = l[n:]
	}
	return b
}

// parts are the bytes within a segment's frame, part by part; words and postings are without how many bytes they are.
type parts struct {
	flag, docs       []byte
	ids, keys, lens  [][]byte
	wordSize, words  []byte
	postSizes, posts [][]byte
	rest             []byte
}

// partsOf are those of a segment, whether it may be or not.
func partsOf(s api.Seg) parts {
	p := parts{flag: []byte{0}, docs: num(len(s.Ids))}
	if s.Sorted {
		p.flag[0] = 1
	}
	for _, id := range s.Ids {
		p.ids = append(p.ids, sized([]byte(id)))
	}
	for _, key := range s.Keys {
		p.keys = append(p.keys, num(key))
	}
	for _, n := range s.Lens {
		p.lens = append(p.lens, num(n))
	}
	var words []string
	for _, term := range s.Terms {
		words = append(words, term.T)
		b := postBytes(term.P...)
		p.postSizes, p.posts = append(p.postSizes, num(len(b))), append(p.posts, b)
	}
	p.words = wordBytes(words...)
	p.wordSize = num(len(p.words))
	return p
}

// setWords puts other bytes for the words.
func (p *parts) setWords(b []byte) { p.words, p.wordSize = b, num(len(b)) }

// setPosts puts other bytes for the postings of a word.
func (p *parts) setPosts(i int, b []byte) { p.posts[i], p.postSizes[i] = b, num(len(b)) }

// addPosts puts bytes behind all postings.
func (p *parts) addPosts(b []byte) {
	p.posts, p.postSizes = append(p.posts, b), append(p.postSizes, num(len(b)))
}

// row are all parts, one behind the other.
func (p parts) row() []byte {
	b := slices.Concat(p.flag, p.docs)
	for _, l := range [][][]byte{p.ids, p.keys, p.lens, {p.wordSize, p.words}} {
		b = append(b, bytes.Join(l, nil)...)
	}
	for i := range p.posts {
		b = append(append(b, p.postSizes[i]...), p.posts[i]...)
	}
	return append(b, p.rest...)
}

// packed is what Pack must answer of a segment that may be.
func packed(s api.Seg) []byte { return framed(83, partsOf(s).row()) }

// guess reads bytes as those of a segment, without looking closely: what it tells is to be written again.
type guess struct {
	b  []byte
	no bool
}

func (g *guess) number() int {
	n, size := binary.Uvarint(g.b)
	if size <= 0 {
		g.no, g.b = true, nil
		return 0
	}
	g.b = g.b[size:]
	return int(n)
}

// count reads how many there are; no more than bytes, since none is written in nothing.
func (g *guess) count() int {
	n := g.number()
	if n < 0 || n > len(g.b) {
		g.no, g.b = true, nil
		return 0
	}
	return n
}

func (g *guess) text() string {
	n := g.count()
	s := string(g.b[:n])
	g.b = g.b[n:]
	return s
}

func (g *guess) postings() []api.Post {
	var l []api.Post
	g.number()
	many, doc := g.count(), -1
	for i := range many {
		if i%4 == 0 {
			g.number()
			g.number()
		}
		doc += g.number() + 1
		p, last := api.Post{Doc: doc}, -1
		for range g.count() {
			last += g.number() + 1
			p.At = append(p.At, last)
		}
		l = append(l, p)
	}
	return l
}

func (g *guess) segment() api.Seg {
	s := api.Seg{Sorted: g.number() == 1}
	docs := g.count()
	for range docs {
		s.Ids = append(s.Ids, g.text())
	}
	for range docs {
		s.Keys = append(s.Keys, g.number())
	}
	for range docs {
		s.Lens = append(s.Lens, g.number())
	}
	g.number()
	ahead := ""
	for range g.count() {
		same := g.number()
		ahead = ahead[:max(0, min(same, len(ahead)))] + g.text()
		s.Terms = append(s.Terms, api.Term{T: ahead})
	}
	for i := range s.Terms {
		s.Terms[i].P = g.postings()
	}
	return s
}

// unpacked is what Unpack must answer of a frame whose sum is right: the segment that may be, and is written so.
func unpacked(within []byte) (api.Seg, api.Errno) {
	g := guess{b: within}
	s := g.segment()
	if g.no || !seg.May(s) || !bytes.Equal(partsOf(s).row(), within) {
		return api.Seg{}, api.ErrForm
	}
	return s, api.OK
}

func wantPack(t *testing.T, s api.Seg, want []byte, e api.Errno) {
	t.Helper()
	was := copied(s)
	got, gotE := pack.Pack(s)
	if !bytes.Equal(got, want) || gotE != e {
		t.Errorf("Pack(%s): %s, %d; want %s, %d", name(s), short(got), gotE, short(want), e)
	}
	if !seg.Same(s, was) {
		t.Errorf("Pack(%s) changed it", name(was))
	}
}

func wantUnpack(t *testing.T, what string, b []byte, want api.Seg, e api.Errno) {
	t.Helper()
	was := bytes.Clone(b)
	got, gotE := pack.Unpack(b)
	if !seg.Same(got, want) || gotE != e {
		t.Errorf("%s: Unpack(%s): %s, %d; want %s, %d", what, short(b), name(got), gotE, name(want), e)
	}
	if !bytes.Equal(b, was) {
		t.Errorf("%s: Unpack(%s) changed it", what, short(was))
	}
}

// wantNo asks that bytes are refused by this error.
func wantNo(t *testing.T, what string, b []byte, e api.Errno) {
	t.Helper()
	wantUnpack(t, what, b, api.Seg{}, e)
}

// wantWithin asks for what must be answered of a frame of these bytes, and tells whether they are those of a segment.
func wantWithin(t *testing.T, what string, within []byte) bool {
	t.Helper()
	want, e := unpacked(within)
	wantUnpack(t, what, framed(83, within), want, e)
	return e == api.OK
}

// wantNoSegment asks that a frame of these bytes is refused.
func wantNoSegment(t *testing.T, what string, within []byte) {
	t.Helper()
	if wantWithin(t, what, within) {
		t.Errorf("%s: %s are those of a segment", what, short(within))
	}
	wantNo(t, what, framed(83, within), api.ErrForm)
}

// P9.1, P9.2: the chapter's example, and others byte by byte.
func TestExamples(t *testing.T) {
	for _, c := range []struct {
		s      api.Seg
		within []byte
	}{
		{api.Seg{}, []byte{0, 0, 1, 0}},
		{api.Seg{Sorted: true}, []byte{1, 0, 1, 0}},
		{made(t, false, card("x", 0)), []byte{0, 1, 1, 'x', 0, 0, 1, 0}},
		{made(t, true, card("\x00\xff", 1<<30)), []byte{1, 1, 2, 0, 255, 128, 128, 128, 128, 4, 0, 1, 0}},
		{made(t, false, card("x", 127, "a"), card("y", 128)), []byte{0, 2, 1, 'x', 1, 'y', 127, 128, 1, 1, 0, 4, 1, 0, 1, 'a', 6, 1, 0, 3, 0, 1, 0}},
		{made(t, true, card("xy", 300, "b", "ab"), card("z", 2, "ab")),
			[]byte{1, 2, 1, 'z', 2, 'x', 'y', 2, 172, 2, 1, 2, 8, 2, 0, 2, 'a', 'b', 0, 1, 'b', 9, 2, 1, 6, 0, 1, 0, 0, 1, 1, 6, 1, 1, 3, 1, 1, 0}},
		{made(t, false, card("x", 5, "a", "ab", "a"), card("y", 2, "ab")),
			[]byte{0, 2, 1, 'x', 1, 'y', 5, 2, 3, 1, 7, 2, 0, 1, 'a', 1, 1, 'b', 7, 1, 0, 4, 0, 2, 0, 1, 9, 2, 1, 6, 0, 1, 1, 0, 1, 0}},
	} {
		wantPack(t, c.s, framed(83, c.within), api.OK)
		wantUnpack(t, "example", framed(83, c.within), c.s, api.OK)
	}
	empty := []byte{70, 83, 4, 0, 0, 1, 0}
	b, _ := pack.Pack(api.Seg{})
	if len(b) != 11 || !bytes.Equal(b[:7], empty) {
		t.Errorf("the empty segment: %s", short(b))
	}
}

// P9.1, P9.2, P9.3: what is packed is what the chapter writes, and is unpacked as it; what is unpacked is packed as the same bytes.
func TestPackUnpack(t *testing.T) {
	for _, s := range all(t, slices.Concat(edges(), mixed(400))) {
		b := packed(s)
		wantPack(t, s, b, api.OK)
		wantUnpack(t, "packed", b, s, api.OK)
		u, _ := pack.Unpack(b)
		if !seg.May(u) {
			t.Errorf("%s may be", name(u))
		}
		wantPack(t, u, b, api.OK)
		if want, e := unpacked(partsOf(s).row()); e != api.OK || !seg.Same(want, s) {
			t.Fatalf("%s is not read as it", name(s))
		}
	}
}

// P9.1: the greatest segment has room in a frame.
func TestPackGreat(t *testing.T) {
	s := made(t, true, great()...)
	b, e := pack.Pack(s)
	if e != api.OK || len(b) < 35000 || len(b) > api.MaxBody {
		t.Errorf("%d bytes, %d", len(b), e)
	}
	if len(s.Terms) != 200 || len(s.Ids) != 64 {
		t.Errorf("%d words, %d documents", len(s.Terms), len(s.Ids))
	}
}

// P9.1: documents that are in order are packed otherwise, if they are told to be.
func TestPackSorted(t *testing.T) {
	for _, s := range all(t, append(edges(), mixed(20)...)) {
		if !s.Sorted {
			continue
		}
		u := copied(s)
		u.Sorted = false
		want := partsOf(s)
		want.flag = []byte{0}
		wantPack(t, u, framed(83, want.row()), api.OK)
		wantUnpack(t, "in order", framed(83, want.row()), u, api.OK)
	}
}

// faults are changes by which a segment of x (a b a), y (b) and z, that is sorted, may be no more.
func faults() map[string]func(s *api.Seg) {
	f := map[string]func(s *api.Seg){
		"an Id fewer":            func(s *api.Seg) { s.Ids = s.Ids[:2] },
		"a Key fewer":            func(s *api.Seg) { s.Keys = s.Keys[:2] },
		"a Lens fewer":           func(s *api.Seg) { s.Lens = s.Lens[:2] },
		"no Ids":                 func(s *api.Seg) { s.Ids = nil },
		"no Keys":                func(s *api.Seg) { s.Keys = nil },
		"no Lens":                func(s *api.Seg) { s.Lens = nil },
		"an Id more":             func(s *api.Seg) { s.Ids = append(s.Ids, "zz") },
		"a Key more":             func(s *api.Seg) { s.Keys = append(s.Keys, 9) },
		"a Lens more":            func(s *api.Seg) { s.Lens = append(s.Lens, 0) },
		"no documents":           func(s *api.Seg) { s.Ids, s.Keys, s.Lens = nil, nil, nil },
		"no Terms":               func(s *api.Seg) { s.Terms = nil },
		"a word fewer":           func(s *api.Seg) { s.Terms = s.Terms[:1] },
		"an Id twice":            func(s *api.Seg) { s.Ids[2] = "x" },
		"an empty Id":            func(s *api.Seg) { s.Ids[0] = "" },
		"a long Id":              func(s *api.Seg) { s.Ids[2] = strings.Repeat("z", 17) },
		"a Key of -1":            func(s *api.Seg) { s.Keys[0] = -1 },
		"a great Key":            func(s *api.Seg) { s.Keys[2] = 1<<30 + 1 },
		"a far too great Key":    func(s *api.Seg) { s.Keys[2] = math.MaxInt },
		"keys that fall":         func(s *api.Seg) { s.Keys[0] = 3 },
		"ids that fall":          func(s *api.Seg) { s.Ids[0], s.Ids[1], s.Keys[1] = "y", "x", 1 },
		"a Lens that is more":    func(s *api.Seg) { s.Lens[2]++ },
		"a Lens that is less":    func(s *api.Seg) { s.Lens[0]-- },
		"a Lens of -1":           func(s *api.Seg) { s.Lens[2] = -1 },
		"a Lens for another":     func(s *api.Seg) { s.Lens[0]--; s.Lens[1]++ },
		"a far too great Lens":   func(s *api.Seg) { s.Lens[1] = math.MaxInt },
		"words that fall":        func(s *api.Seg) { s.Terms[0], s.Terms[1] = s.Terms[1], s.Terms[0] },
		"a word twice":           func(s *api.Seg) { s.Terms[1].T = "a" },
		"an empty word":          func(s *api.Seg) { s.Terms[0].T = "" },
		"a long word":            func(s *api.Seg) { s.Terms[1].T = strings.Repeat("b", 33) },
		"a word without place":   func(s *api.Seg) { s.Terms = append(s.Terms, at("c")) },
		"no postings":            func(s *api.Seg) { s.Terms[0].P = nil },
		"no places":              func(s *api.Seg) { s.Terms[1].P[1].At = nil },
		"a posting of no places": func(s *api.Seg) { s.Terms[1].P = append(s.Terms[1].P, on(2)) },
		"documents that fall":    func(s *api.Seg) { slices.Reverse(s.Terms[1].P) },
		"a document twice":       func(s *api.Seg) { s.Terms[0].P = []api.Post{on(0, 0), on(0, 2)} },
		"places that fall":       func(s *api.Seg) { slices.Reverse(s.Terms[0].P[0].At) },
		"a place twice":          func(s *api.Seg) { s.Terms[0].P[0].At = []int{0, 0, 2} },
		"a place of two words":   func(s *api.Seg) { s.Terms[1].P[0].At = []int{1, 2} },
		"a place of another":     func(s *api.Seg) { s.Terms[1].P[0].At = []int{0} },
		"a place of a third":     func(s *api.Seg) { s.Terms = append(s.Terms, at("c", on(1, 0))) },
		"a free place":           func(s *api.Seg) { s.Terms[0].P[0].At = []int{0} },
		"a free document":        func(s *api.Seg) { s.Terms[1].P = s.Terms[1].P[:1] },
		"a place of -1":          func(s *api.Seg) { s.Terms[0].P[0].At = []int{-1, 0, 2} },
		"a place beyond":         func(s *api.Seg) { s.Terms[1].P[1].At = []int{0, 1} },
		"a place beyond alone":   func(s *api.Seg) { s.Terms[1].P[1].At = []int{1} },
		"the place 120":          func(s *api.Seg) { s.Terms[0].P[0].At = []int{0, 2, 120} },
		"a place of the empty":   func(s *api.Seg) { s.Terms[1].P = append(s.Terms[1].P, on(2, 0)) },
		"the document 3":         func(s *api.Seg) { s.Terms[1].P = append(s.Terms[1].P, on(3, 0)) },
		"the document 3 instead": func(s *api.Seg) { s.Terms[1].P[1].Doc = 3 },
		"the document -1":        func(s *api.Seg) { s.Terms[0].P[0].Doc = -1 },
		"the document 64":        func(s *api.Seg) { s.Terms[1].P[1].Doc = 64 },
		"another document":       func(s *api.Seg) { s.Terms[1].P[1].Doc = 2 },
	}
	return f
}

// inOrder are faults of a sorted segment alone.
func inOrder(what string) bool { return what == "keys that fall" || what == "ids that fall" }

// P9.1: a segment that may not be is not packed, sorted or not; P9.2: nor are its parts, written all the same, unpacked.
func TestMayNot(t *testing.T) {
	for what, fault := range faults() {
		for _, sorted := range []bool{true, false} {
			s := made(t, sorted, card("x", 1, "a", "b", "a"), card("y", 2, "b"), card("z", 2))
			fault(&s)
			if inOrder(what) && !sorted {
				wantPack(t, s, packed(s), api.OK)
				wantUnpack(t, what, packed(s), s, api.OK)
				continue
			}
			if seg.May(s) {
				t.Fatalf("%s: it may be", what)
			}
			wantPack(t, s, nil, api.ErrArg)
			wantNoSegment(t, what, partsOf(s).row())
		}
	}
}

// tooMany are segments of more documents, words or places than there may be.
func tooMany(t *testing.T) []api.Seg {
	t.Helper()
	var docs api.Seg
	for i := range 65 {
		docs.Ids, docs.Keys, docs.Lens = append(docs.Ids, string([]byte{'i', byte(i)})), append(docs.Keys, i), append(docs.Lens, 0)
	}
	words := api.Seg{Ids: []string{"x", "y"}, Keys: []int{0, 1}, Lens: []int{120, 81}}
	for i := range 201 {
		words.Terms = append(words.Terms, at(string([]byte{'w', byte(i)}), on(i/120, i%120)))
	}
	places := made(t, false, card("x", 1, often("a", 120)...))
	places.Lens[0], places.Terms[0].P[0].At = 121, append(places.Terms[0].P[0].At, 120)
	return []api.Seg{
		docs, words, places, {Ids: make([]string, 5000), Keys: make([]int, 5000), Lens: make([]int, 5000)}, {Terms: make([]api.Term, 5000)},
		{Ids: []string{"x"}, Keys: []int{0}, Lens: []int{1}, Terms: []api.Term{{T: "a", P: make([]api.Post, 5000)}}},
		{Ids: []string{"x"}, Keys: []int{0}, Lens: []int{1}, Terms: []api.Term{at("a", on(0, make([]int, 3000)...))}},
		{Ids: []string{"x", "y"}, Keys: []int{0, 0}, Lens: []int{math.MinInt, math.MinInt}}, {Ids: []string{"x"}}, {Keys: []int{0}}, {Lens: []int{0}}, {Terms: []api.Term{{}}},
	}
}

// P9.1, P9.2: nor is one of too many documents, words or places.
func TestTooMany(t *testing.T) {
	for _, s := range tooMany(t) {
		for _, s.Sorted = range []bool{false, true} {
			wantPack(t, s, nil, api.ErrArg)
			wantNoSegment(t, "too many", partsOf(s).row())
		}
	}
}

// P9.2: bytes that are no frame, and frames of another kind.
func TestUnpackNoFrame(t *testing.T) {
	for _, b := range [][]byte{nil, {}, {70}, {83}, {0}, {70, 83}, {70, 83, 0}, {0, 0, 1, 0}, []byte("segment"), make([]byte, 11), make([]byte, 100000), bytes.Repeat([]byte{255}, 40), bytes.Repeat([]byte{70, 83}, 30)} {
		wantNo(t, "no frame", b, api.ErrForm)
	}
	for _, s := range all(t, small()) {
		within := partsOf(s).row()
		wantNo(t, "what is within alone", within, api.ErrForm)
		for kind := range 256 {
			if kind != 83 {
				wantNo(t, "another kind", framed(byte(kind), within), api.ErrForm)
			}
		}
		wantNo(t, "a frame within a frame", framed(83, framed(83, within)), api.ErrForm)
	}
	long := framed(83, make([]byte, api.MaxBody+1))
	wantNo(t, "too long for a frame", long, api.ErrForm)
	wantNoSegment(t, "as long as a frame may be", make([]byte, api.MaxBody))
}

// P9.2, P9.3: what is cut, or has more bytes, is refused.
func TestUnpackCut(t *testing.T) {
	for _, s := range all(t, edges()) {
		b := packed(s)
		step := stride(b)
		for i := 0; i < len(b); i += step {
			wantNo(t, "cut", b[:i:i], api.ErrForm)
			wantNo(t, "cut, with spare bytes", b[:i], api.ErrForm)
			if i > 0 {
				wantNo(t, "cut ahead", b[i:], api.ErrForm)
			}
		}
		for _, more := range [][]byte{{0}, {1}, {70}, {255}, {0, 0, 0, 0}, b} {
			wantNo(t, "bytes behind", slices.Concat(b, more), api.ErrForm)
			wantNo(t, "bytes ahead", slices.Concat(more, b), api.ErrForm)
		}
		for i := 0; i <= len(b); i += step {
			if got, e := pack.Unpack(slices.Insert(bytes.Clone(b), i, 0)); e == api.OK || !seg.Same(got, api.Seg{}) {
				t.Errorf("a byte more at %d of %s", i, short(b))
			}
		}
	}
}

// P9.2, P9.3: what has one byte turned is refused: by its form, if that byte is of it, else by the sum.
func TestUnpackTurned(t *testing.T) {
	for _, s := range all(t, edges()) {
		b := packed(s)
		size := 2 + len(num(len(partsOf(s).row())))
		step := stride(b)
		for i := 0; i < len(b); i += step {
			for _, by := range []byte{1, 2, 64, 128, 255} {
				c := bytes.Clone(b)
				c[i] ^= by
				want := api.ErrSum
				if i < size {
					want = api.ErrForm
				}
				wantNo(t, "turned at "+strconv.Itoa(i), c, want)
			}
		}
		for i := size; i+1 < len(b); i += step {
			if b[i] != b[i+1] {
				c := bytes.Clone(b)
				c[i], c[i+1] = c[i+1], c[i]
				wantNo(t, "turned about at "+strconv.Itoa(i), c, api.ErrSum)
			}
		}
	}
}

// P9.2, R8: within a frame whose sum is right any byte may be turned, cut away or put in: it is that of another segment that may be, or refused.
func TestWithinTurned(t *testing.T) {
	seen := map[bool]int{}
	for _, s := range all(t, small()) {
		within := partsOf(s).row()
		for i := range within {
			for c := 0; c < 256; c += 1 + len(within)/12 {
				b := bytes.Clone(within)
				b[i] = byte(c)
				seen[wantWithin(t, "turned at "+strconv.Itoa(i), b)]++
			}
			wantNoSegment(t, "cut at "+strconv.Itoa(i), within[:i])
			wantWithin(t, "cut away at "+strconv.Itoa(i), slices.Delete(bytes.Clone(within), i, i+1))
			for _, c := range []byte{0, 1, 2, 127, 128, 129, 255, within[i]} {
				wantWithin(t, "put in at "+strconv.Itoa(i), slices.Insert(bytes.Clone(within), i, c))
			}
		}
		for c := range 256 {
			wantNoSegment(t, "a byte left over", append(bytes.Clone(within), byte(c)))
		}
	}
	if seen[true] < 1000 || seen[false] < 10000 {
		t.Errorf("%d are those of a segment, %d are not", seen[true], seen[false])
	}
	for _, l := range edges() {
		within := partsOf(made(t, true, l...)).row()
		for i := 0; i < len(within); i += 3 * stride(within) {
			for _, by := range []byte{1, 128, 255} {
				b := bytes.Clone(within)
				b[i] ^= by
				wantWithin(t, "turned at "+strconv.Itoa(i), b)
			}
			wantNoSegment(t, "cut at "+strconv.Itoa(i), within[:i])
		}
	}
}

// twist changes bytes, as it happens.
func twist(dice *rand.Rand, b []byte) []byte {
	i, k := dice.Intn(len(b)+1), dice.Intn(len(b)+1)
	i, k = min(i, k), max(i, k)
	few := []byte{0, 1, 2, 3, 4, 127, 128, 255, 'a', 'b'}
	switch dice.Intn(6) {
	case 0:
		return slices.Insert(b, i, few[dice.Intn(len(few))])
	case 1:
		return slices.Delete(b, i, min(len(b), i+1+dice.Intn(2)))
	case 2:
		return slices.Insert(b, k, b[i:min(k, i+4)]...)
	case 3:
		if i < len(b) {
			b[i]++
		}
		if k < len(b) {
			b[k]--
		}
	case 4:
		if i < k && k < len(b) {
			b[i], b[k] = b[k], b[i]
		}
	default:
		if i < len(b) {
			b[i] = few[dice.Intn(len(few))]
		}
	}
	return b
}

// P9.2: whatever is twisted within: it is that of a segment that may be, and packed as the same bytes, or refused.
func TestWithinTwisted(t *testing.T) {
	dice := rand.New(rand.NewSource(99))
	seen := map[bool]int{}
	for _, s := range all(t, slices.Concat(small(), mixed(60))) {
		for range 250 {
			b := partsOf(s).row()
			for range 1 + dice.Intn(3) {
				b = twist(dice, b)
			}
			is := wantWithin(t, "twisted", b)
			seen[is]++
			if u, _ := pack.Unpack(framed(83, b)); is {
				wantPack(t, u, framed(83, b), api.OK)
			}
		}
	}
	if seen[true] < 1000 || seen[false] < 10000 {
		t.Errorf("%d are those of a segment, %d are not", seen[true], seen[false])
	}
	for range 5000 { // bytes of chance
		b := make([]byte, dice.Intn(30))
		for i := range b {
			b[i] = byte(dice.Intn(3))
		}
		wantWithin(t, "chance", b)
	}
}

// longer are the bytes of a number, with one more that adds nothing.
func longer(b []byte) []byte {
	b = bytes.Clone(b)
	b[len(b)-1] += 128
	return append(b, 0)
}

// P9.2: parts that are wrong one by one, of the segment of x (a b a), y (b) and z.
func TestWrongParts(t *testing.T) {
	none, wide := []byte{128}, []byte{255, 255, 255, 255, 255, 1}
	greatest := []byte{255, 255, 255, 255, 127}
	all := map[string]func(p *parts){
		"no first byte":                   func(p *parts) { p.flag = nil },
		"the first byte 2":                func(p *parts) { p.flag = []byte{2} },
		"the first byte 128":              func(p *parts) { p.flag = []byte{128} },
		"the first byte 129":              func(p *parts) { p.flag = []byte{129} },
		"the first byte 255":              func(p *parts) { p.flag = []byte{255} },
		"a first byte longer written":     func(p *parts) { p.flag = longer(p.flag) },
		"two first bytes":                 func(p *parts) { p.flag = []byte{1, 1} },
		"no count":                        func(p *parts) { p.docs = nil },
		"a count that is none":            func(p *parts) { p.docs = none },
		"a count of too many bytes":       func(p *parts) { p.docs = wide },
		"the greatest count":              func(p *parts) { p.docs = greatest },
		"the count 0":                     func(p *parts) { p.docs = num(0) },
		"a count that is less":            func(p *parts) { p.docs = num(2) },
		"a count that is more":            func(p *parts) { p.docs = num(4) },
		"the count 64":                    func(p *parts) { p.docs = num(64) },
		"the count 65":                    func(p *parts) { p.docs = num(65) },
		"a longer written count":          func(p *parts) { p.docs = longer(p.docs) },
		"an Id of no bytes":               func(p *parts) { p.ids[0] = num(0) },
		"an Id of 17 bytes":               func(p *parts) { p.ids[2] = sized([]byte(strings.Repeat("z", 17))) },
		"an Id of 300 bytes":              func(p *parts) { p.ids[2] = sized([]byte(strings.Repeat("z", 300))) },
		"an Id that is said to be longer": func(p *parts) { p.ids[1] = []byte{2, 'y'} },
		"an Id that is said shorter":      func(p *parts) { p.ids[1] = []byte{1, 'y', 'y'} },
		"an Id that is all":               func(p *parts) { p.ids[1] = []byte{200, 1, 'y'} },
		"an Id of all that may be":        func(p *parts) { p.ids[1] = append(bytes.Clone(greatest), 'y') },
		"an Id's length that is none":     func(p *parts) { p.ids[0] = append(bytes.Clone(none), 'x') },
		"an Id's length longer written":   func(p *parts) { p.ids[0] = append(longer(num(1)), 'x') },
		"an Id without length":            func(p *parts) { p.ids[0] = []byte{'x'} },
		"an Id fewer":                     func(p *parts) { p.ids = p.ids[:2] },
		"an Id more":                      func(p *parts) { p.ids = append(p.ids, sized([]byte("zz"))) },
		"an Id twice":                     func(p *parts) { p.ids[2] = p.ids[0] },
		"a Key that is too great":         func(p *parts) { p.keys[2] = num(1<<30 + 1) },
		"a Key that is the greatest":      func(p *parts) { p.keys[2] = greatest },
		"a Key that is none":              func(p *parts) { p.keys[2] = wide },
		"a Key without end":               func(p *parts) { p.keys[0] = none },
		"a Key longer written":            func(p *parts) { p.keys[0] = longer(p.keys[0]) },
		"a Key of two bytes longer":       func(p *parts) { p.keys[2] = longer(num(300)) },
		"a Key of 0 longer":               func(p *parts) { p.keys[0] = longer(num(0)) },
		"a Key fewer":                     func(p *parts) { p.keys = p.keys[:2] },
		"a Key more":                      func(p *parts) { p.keys = append(p.keys, num(2)) },
		"keys that fall":                  func(p *parts) { p.keys[0] = num(9) },
		"a Lens that is none":             func(p *parts) { p.lens[0] = wide },
		"a Lens longer written":           func(p *parts) { p.lens[0] = longer(p.lens[0]) },
		"a Lens that is less":             func(p *parts) { p.lens[0] = num(2) },
		"a Lens that is more":             func(p *parts) { p.lens[0] = num(4) },
		"a Lens of 121":                   func(p *parts) { p.lens[2] = num(121) },
		"a Lens that is the greatest":     func(p *parts) { p.lens[2] = greatest },
		"a Lens fewer":                    func(p *parts) { p.lens = p.lens[:2] },
		"a Lens more":                     func(p *parts) { p.lens = append(p.lens, num(0)) },
		"Lens in another order":           func(p *parts) { p.lens[0], p.lens[1] = p.lens[1], p.lens[0] },
		"words said to be none":           func(p *parts) { p.wordSize = num(0) },
		"words said to be shorter":        func(p *parts) { p.wordSize = num(len(p.words) - 1) },
		"words said to be longer":         func(p *parts) { p.wordSize = num(len(p.words) + 1) },
		"words said to be all":            func(p *parts) { p.wordSize = greatest },
		"words of a length that is none":  func(p *parts) { p.wordSize = wide },
		"a longer written length":         func(p *parts) { p.wordSize = longer(p.wordSize) },
		"no length of words":              func(p *parts) { p.wordSize = nil },
		"no bytes of words":               func(p *parts) { p.setWords(nil) },
		"no words, with postings":         func(p *parts) { p.setWords(num(0)) },
		"words that fall":                 func(p *parts) { p.setWords(wordBytes("b", "a")) },
		"words that are the same":         func(p *parts) { p.setWords([]byte{2, 0, 1, 'a', 1, 0}) },
		"a word of no bytes":              func(p *parts) { p.setWords([]byte{2, 0, 0, 0, 1, 'b'}) },
		"a word of 33 bytes":              func(p *parts) { p.setWords(wordBytes("a", strings.Repeat("b", 33))) },
		"a beginning told too short":      func(p *parts) { p.setWords([]byte{2, 0, 1, 'a', 0, 2, 'a', 'b'}) },
		"a beginning that is none":        func(p *parts) { p.setWords([]byte{2, 0, 1, 'a', 2, 1, 'b'}) },
		"bytes behind words":              func(p *parts) { p.setWords(append(p.words, 0)) },
		"words that are cut":              func(p *parts) { p.setWords(p.words[:len(p.words)-1]) },
		"a count of words longer written": func(p *parts) { p.setWords(append(longer(num(2)), p.words[1:]...)) },
		"a word more than postings":       func(p *parts) { p.setWords(wordBytes("a", "b", "c")) },
		"a word fewer than postings":      func(p *parts) { p.setWords(wordBytes("a")) },
		"postings fewer than words":       func(p *parts) { p.posts = p.posts[:1] },
		"no postings at all":              func(p *parts) { p.posts = nil },
		"postings more than words":        func(p *parts) { p.addPosts(postBytes(on(2, 0))) },
		"empty postings more":             func(p *parts) { p.addPosts(postBytes()) },
		"postings said to be none":        func(p *parts) { p.postSizes[0] = num(0) },
		"postings said to be shorter":     func(p *parts) { p.postSizes[0] = num(len(p.posts[0]) - 1) },
		"postings said to be longer":      func(p *parts) { p.postSizes[0] = num(len(p.posts[0]) + 1) },
		"last postings said shorter":      func(p *parts) { p.postSizes[1] = num(len(p.posts[1]) - 1) },
		"last postings said longer":       func(p *parts) { p.postSizes[1] = num(len(p.posts[1]) + 1) },
		"postings said to be all":         func(p *parts) { p.postSizes[1] = greatest },
		"postings of no length":           func(p *parts) { p.postSizes[0] = nil },
		"postings of none as length":      func(p *parts) { p.postSizes[0] = wide },
		"a postings' length longer":       func(p *parts) { p.postSizes[0] = longer(p.postSizes[0]) },
		"no bytes of postings":            func(p *parts) { p.setPosts(0, nil) },
		"bytes behind postings":           func(p *parts) { p.setPosts(0, append(p.posts[0], 0)) },
		"bytes behind the last postings":  func(p *parts) { p.setPosts(1, append(p.posts[1], 0)) },
		"postings that are cut":           func(p *parts) { p.setPosts(0, p.posts[0][:len(p.posts[0])-1]) },
		"a block's last document wrong":   func(p *parts) { p.setPosts(1, []byte{2, 2, 6, 0, 1, 1, 0, 1, 0}) },
		"a block's length wrong":          func(p *parts) { p.setPosts(1, []byte{2, 1, 5, 0, 1, 1, 0, 1, 0}) },
		"a document's places none":        func(p *parts) { p.setPosts(1, postBytes(on(0, 1), on(1))) },
		"the document 64":                 func(p *parts) { p.setPosts(1, postBytes(on(0, 1), on(64, 0))) },
		"the place 120":                   func(p *parts) { p.setPosts(0, postBytes(on(0, 0, 2, 120))) },
		"a word that stands nowhere":      func(p *parts) { p.setPosts(0, postBytes()) },
		"a word more that has no place":   func(p *parts) { p.setWords(wordBytes("a", "b", "c")); p.addPosts(postBytes()) },
		"a place of two words":            func(p *parts) { p.setPosts(0, postBytes(on(0, 0, 1, 2))) },
		"a free place":                    func(p *parts) { p.setPosts(0, postBytes(on(0, 0))) },
		"a place beyond":                  func(p *parts) { p.setPosts(0, postBytes(on(0, 0, 2, 3))) },
		"a place of the empty":            func(p *parts) { p.setPosts(1, postBytes(on(0, 1), on(1, 0), on(2, 0))) },
		"the document 3":                  func(p *parts) { p.setPosts(1, postBytes(on(0, 1), on(1, 0), on(3, 0))) },
		"postings in another order":       func(p *parts) { p.posts[0], p.posts[1] = p.posts[1], p.posts[0] },
		"no part at all":                  func(p *parts) { *p = parts{} },
		"a byte left over":                func(p *parts) { p.rest = []byte{0} },
		"a segment left over":             func(p *parts) { p.rest = p.row() },
		"many bytes left over":            func(p *parts) { p.rest = make([]byte, 5000) },
	}
	for what, change := range all {
		for _, sorted := range []bool{true, false} {
			p := partsOf(made(t, sorted, card("x", 1, "a", "b", "a"), card("y", 2, "b"), card("z", 2)))
			change(&p)
			if sorted || what != "keys that fall" {
				wantNoSegment(t, what, p.row())
			} else if !wantWithin(t, what, p.row()) {
				t.Errorf("%s: it is not sorted, and may be", what)
			}
		}
	}
	for _, b := range [][]byte{nil, {0}, {1}, {0, 0}, {0, 0, 1}, {0, 0, 0}, {0, 0, 0, 0}, {2, 0, 1, 0}, {0, 65}, {0, 1}, {0, 0, 1, 0, 0}, {0, 0, 1, 1}, {0, 0, 2, 0, 0}, {0, 128, 0, 1, 0}, {0, 0, 129, 0, 0}, {0, 0, 2, 128, 0}} {
		wantNoSegment(t, "of no documents", b)
	}
}

// P9.2: counts that are far more than there are bytes end at once.
func TestUnpackEnds(t *testing.T) {
	for _, fill := range []byte{0, 1, 127, 128, 255} {
		for _, head := range [][]byte{{0}, {1}, {1, 64}, {0, 65}, {0, 255, 255, 255, 255, 127}, {1, 255, 255, 3}, {0, 0, 255, 255, 255, 255, 127}, {0, 0, 128, 4, 200, 1}, {0, 0}} {
			b := bytes.Repeat([]byte{fill}, api.MaxBody)
			copy(b, head)
			wantNoSegment(t, "many bytes", b)
		}
	}
}

// P9.2, R2: of several errors that of the frame is told, and of the frame the form ahead of the sum.
func TestUnpackFirst(t *testing.T) {
	wrong := [][]byte{nil, {2, 0, 1, 0}, {0, 65}, {0, 0, 1, 0, 0}, {0, 0, 0}, {0, 128, 0, 1, 0}}
	for what, fault := range faults() {
		s := made(t, true, card("x", 1, "a", "b", "a"), card("y", 2, "b"), card("z", 2))
		fault(&s)
		within := partsOf(s).row()
		if _, e := unpacked(within); e != api.ErrForm {
			t.Fatalf("%s: it is that of a segment", what)
		}
		wrong = append(wrong, within)
	}
	for _, within := range wrong {
		b := framed(83, within)
		wantNo(t, "wrong within", b, api.ErrForm)
		for i := range 4 {
			c := bytes.Clone(b)
			c[len(c)-1-i]++
			wantNo(t, "wrong within, and another sum", c, api.ErrSum)
			wantNo(t, "and a byte more", append(bytes.Clone(c), 0), api.ErrForm)
			wantNo(t, "and a byte fewer", c[:len(c)-1], api.ErrForm)
			c[1] = 82
			wantNo(t, "and another kind", c, api.ErrForm)
			c[0], c[1] = 71, 83
			wantNo(t, "and another mark", c, api.ErrForm)
		}
	}
	good := packed(made(t, false, card("x", 1, "a")))
	good[len(good)-1]++
	wantNo(t, "another sum alone", good, api.ErrSum)
	good[1]++
	wantNo(t, "another sum and kind", good, api.ErrForm)
	long := framed(83, make([]byte, api.MaxBody+1))
	long[len(long)-1]++
	wantNo(t, "another sum of too many bytes", long, api.ErrForm)
}

// R3: later changes of a segment change nothing of its bytes, nor those of the bytes anything of it.
func TestPackIsNew(t *testing.T) {
	for _, s := range all(t, append(edges(), mixed(20)...)) {
		was, want := copied(s), packed(s)
		b, _ := pack.Pack(s)
		other, _ := pack.Pack(s)
		spoilBytes(b)
		if !seg.Same(s, was) || !bytes.Equal(other, want) {
			t.Errorf("%s hangs on its bytes", name(was))
		}
		spoil(s)
		if !bytes.Equal(other, want) {
			t.Errorf("the bytes of %s hang on it", name(was))
		}
	}
}

// R3: later changes of bytes change nothing of their segment, nor those of the segment anything of them.
func TestUnpackIsNew(t *testing.T) {
	for _, s := range all(t, append(edges(), mixed(20)...)) {
		b := packed(s)
		want := bytes.Clone(b)
		u, _ := pack.Unpack(b)
		other, _ := pack.Unpack(b)
		spoil(u)
		if !bytes.Equal(b, want) || !seg.Same(other, s) {
			t.Errorf("the bytes of %s hang on it", name(s))
		}
		spoilBytes(b)
		if !seg.Same(other, s) {
			t.Errorf("%s hangs on its bytes", name(s))
		}
	}
}

// R3: no two lists of an answer share memory: what is put behind one is not to be seen in another.
func TestListsAreApart(t *testing.T) {
	for _, s := range all(t, append(edges(), mixed(20)...)) {
		u, _ := pack.Unpack(packed(s))
		for i := range u.Terms {
			for k := range u.Terms[i].P {
				_ = append(u.Terms[i].P[k].At, 77)
			}
			_ = append(u.Terms[i].P, api.Post{Doc: 77})
		}
		_, _, _, _ = append(u.Ids, "spoilt"), append(u.Keys, 77), append(u.Lens, 77), append(u.Terms, api.Term{T: "spoilt"})
		if !seg.Same(u, s) {
			t.Errorf("lists of %s are not apart", name(s))
		}
	}
}

// R3: what lies behind a list's length is neither read nor changed.
func TestBehindTheLength(t *testing.T) {
	s := made(t, true, card("x", 1, "a", "b", "a"), card("y", 2, "b"))
	places := []int{0, 2, 77, 78}
	p := []api.Post{{Doc: 0, At: places[:2]}, {Doc: 77, At: []int{77}}}
	u := api.Seg{Ids: append(slices.Clone(s.Ids), "x")[:2], Keys: append(slices.Clone(s.Keys), -1)[:2], Lens: append(slices.Clone(s.Lens), -1)[:2], Terms: append(slices.Clone(s.Terms), api.Term{T: "behind"})[:2], Sorted: true}
	u.Terms[0].P = p[:1]
	wantPack(t, u, packed(s), api.OK)
	if !slices.Equal(places, []int{0, 2, 77, 78}) || p[1].Doc != 77 || u.Ids[:3][2] != "x" || u.Keys[:3][2] != -1 || u.Lens[:3][2] != -1 || u.Terms[:3][2].T != "behind" {
		t.Error("what lay behind is changed")
	}
	b := packed(s)
	room := append(bytes.Clone(b), 1, 2, 3, 4, 5)
	wantUnpack(t, "with spare bytes", room[:len(b)], s, api.OK)
	if !bytes.Equal(room[len(b):], []byte{1, 2, 3, 4, 5}) {
		t.Error("what lay behind is changed")
	}
	for i := range b {
		wantNo(t, "cut, the rest behind", b[:i], api.ErrForm)
	}
}

// R6: a list without elements may be nil or empty.
func TestEmptyLists(t *testing.T) {
	wantPack(t, api.Seg{Ids: []string{}, Keys: []int{}, Lens: []int{}, Terms: []api.Term{}}, packed(api.Seg{}), api.OK)
	wantPack(t, api.Seg{Ids: []string{"x"}, Keys: []int{1}, Lens: []int{0}, Terms: []api.Term{}}, packed(made(t, false, card("x", 1))), api.OK)
	wantNo(t, "empty bytes", []byte{}, api.ErrForm)
	wantNo(t, "no bytes", nil, api.ErrForm)
}

// R5: asked again the same is told, whatever was asked between.
func TestAgain(t *testing.T) {
	s := made(t, true, great()...)
	b := packed(s)
	for range 5 {
		wantPack(t, s, b, api.OK)
		wantUnpack(t, "again", b, s, api.OK)
		pack.Unpack(b[:len(b)-1])
		pack.Pack(api.Seg{Ids: []string{""}})
		pack.Unpack(framed(83, []byte{1, 2}))
	}
}
