package seg_test

import (
	"bytes"
	"math"
	"math/rand"
	"slices"
	"sort"
	"strconv"
	"strings"
	"testing"

	"catchword/api"
	"catchword/seg"
)

func card(id string, key int, w ...string) api.Card { return api.Card{Id: id, Key: key, W: w} }

// numbered are unlike words, as many as many says, from the first number on.
func numbered(first, many int) []string {
	var l []string
	for i := range many {
		l = append(l, "w"+strconv.Itoa(first+i))
	}
	return l
}

// often is a word as often as many says.
func often(word string, many int) []string {
	var l []string
	for range many {
		l = append(l, word)
	}
	return l
}

// plain are cards of unlike ids, each with a word of its own and one of all of them.
func plain(many int) []api.Card {
	var l []api.Card
	for i := range many {
		n := strconv.Itoa(i * 37 % 101)
		l = append(l, card("i"+n, i*53%19, "all", n))
	}
	return l
}

// full are as many cards as there may be, each of as many words as it may have, of 200 unlike ones together.
func full() []api.Card {
	var l []api.Card
	for i := range 64 {
		var w []string
		for k := range 120 {
			w = append(w, "w"+strconv.Itoa((i*67+k*k)%200))
		}
		l = append(l, card("i"+strconv.Itoa(63-i), i/3, w...))
	}
	for i := range 200 {
		l[i/100].W[i%100] = "w" + strconv.Itoa(i)
	}
	return l
}

// turned are the cards from the last one to the first.
func turned(l []api.Card) []api.Card {
	l = slices.Clone(l)
	slices.Reverse(l)
	return l
}

// edges are cards of which a segment is made.
func edges() [][]api.Card {
	inOrder := []api.Card{card("z", 0), card("a", 1, "b"), card("b", 1, "a"), card("a\x00", 2, "c")}
	out := [][]api.Card{
		nil, {}, {card("x", 0)}, {card("x", 0, "a")}, {card("x", 5, "a", "b", "a"), card("y", 2, "b")},
		{card("x", 0), card("y", 0)}, plain(1), plain(2), plain(63), plain(64), full(), turned(full()),
		{card("x", 1, often("a", 120)...)}, {card("x", 1, numbered(0, 120)...)}, {card("x", 1, numbered(0, 119)...), card("y", 1, often("w7", 120)...)},
		{card("x", 1, numbered(0, 120)...), card("y", 1, numbered(120, 80)...)}, {card("x", 1, numbered(100, 100)...), card("y", 1, numbered(0, 120)...)},
		{card("i", 0), card(strings.Repeat("i", 16), 0)}, {card("x", 1<<30, "a"), card("y", 0, "a")}, {card("x", 0), card("y", 1<<30), card("w", 1)},
		{card("x", 1, "b", strings.Repeat("a", 32), "a", strings.Repeat("b", 32), strings.Repeat("a", 31))},
		{card("x", 1, "\x00", "\xff", "\x00\x00", "\xff\x00", "a\xff", "a\x00", "a", "A", "é", " ")},
		{card("ab", 4), card("a", 4), card("a\x00", 4), card("a\xff", 4), card("\x00", 4), card("\xff", 4), card("\xff\xff", 4), card("\x00\x00", 4), card("b", 4), card("A", 4)},
		{card("9", 10), card("10", 9), card("1", 1), card("11", 2), card("2", 11)},
		inOrder, turned(inOrder), {card("x", 1, "x"), card("y", 1, "x")}, {card("x", 1), card("y", 1, "x"), card("w", 1), card("v", 1, "x", "x")},
	}
	for _, at := range []int{0, 1, 59, 118, 119} { // a word that stands at one place alone, and at all others
		once, others := often("b", 120), often("a", 120)
		once[at], others[at] = "a", "b"
		out = append(out, []api.Card{card("x", 1, once...), card("y", 0, others...)})
	}
	return out
}

// mixed are cards of which a segment is made, as it happens, the same ones each time.
func mixed(many int) [][]api.Card {
	dice := rand.New(rand.NewSource(8))
	some := func(most int, of string) string {
		b := make([]byte, 1+dice.Intn(most))
		for i := range b {
			b[i] = of[dice.Intn(len(of))]
		}
		return string(b)
	}
	var out [][]api.Card
	for range many {
		var l []api.Card
		for range dice.Intn(9) {
			c := card(some(4, "ab\x00\xff"), dice.Intn(4))
			if slices.ContainsFunc(l, func(d api.Card) bool { return d.Id == c.Id }) {
				continue
			}
			for range dice.Intn(3) * dice.Intn(12) {
				c.W = append(c.W, some(3, "ab"))
			}
			l = append(l, c)
		}
		out = append(out, l)
	}
	return out
}

// wrong are cards that may not be.
func wrong() []api.Card {
	out := []api.Card{
		{}, card("", 0), card("", 5, "a"), card(strings.Repeat("i", 17), 0), card(strings.Repeat("i", 300), 0),
		card("x", -1), card("x", 1<<30+1), card("x", math.MinInt), card("x", math.MaxInt), card("x", -1<<30),
		card("x", 0, often("a", 121)...), card("x", 0, numbered(0, 121)...), card("x", 0, often("a", 3000)...),
		card("x", 0, ""), card("x", 0, strings.Repeat("a", 33)), card("x", 0, strings.Repeat("a", 300)), card("x", 0, make([]string, 120)...),
	}
	for _, word := range []string{"", strings.Repeat("a", 33)} {
		for _, at := range []int{0, 60, 119} {
			w := often("a", 120)
			w[at] = word
			out = append(out, card("x", 0, w...))
		}
	}
	return out
}

// mayCard is whether a card may be.
func mayCard(c api.Card) bool {
	for _, w := range c.W {
		if len(w) == 0 || len(w) > 32 {
			return false
		}
	}
	return len(c.Id) != 0 && len(c.Id) <= 16 && c.Key >= 0 && c.Key <= 1073741824 && len(c.W) <= 120
}

// ahead is what Before must answer.
func ahead(a, b api.Card) bool {
	if a.Key != b.Key {
		return a.Key < b.Key
	}
	return bytes.Compare([]byte(a.Id), []byte(b.Id)) < 0
}

// built is what Build must answer, worked out word by word, by going through all documents and all places.
func built(l []api.Card, sorted bool) (api.Seg, api.Errno) {
	for i, c := range l {
		if !mayCard(c) || slices.ContainsFunc(l[:i], func(d api.Card) bool { return d.Id == c.Id }) {
			return api.Seg{}, api.ErrArg
		}
	}
	l = slices.Clone(l)
	if sorted {
		sort.Slice(l, func(i, k int) bool { return ahead(l[i], l[k]) })
	}
	s := api.Seg{Sorted: sorted}
	is := map[string]bool{}
	var words []string
	for _, c := range l {
		s.Ids, s.Keys, s.Lens = append(s.Ids, c.Id), append(s.Keys, c.Key), append(s.Lens, len(c.W))
		for _, w := range c.W {
			if !is[w] {
				words = append(words, w)
			}
			is[w] = true
		}
	}
	if len(l) > 64 || len(words) > 200 {
		return api.Seg{}, api.ErrLimit
	}
	sort.Strings(words)
	for _, word := range words {
		t := api.Term{T: word}
		for doc, c := range l {
			var at []int
			for i, w := range c.W {
				if w == word {
					at = append(at, i)
				}
			}
			if at != nil {
				t.P = append(t.P, api.Post{Doc: doc, At: at})
			}
		}
		s.Terms = append(s.Terms, t)
	}
	return s, api.OK
}

// loose are cards as a segment tells them, if one does not look closely.
func loose(s api.Seg) []api.Card {
	var l []api.Card
	for i, id := range s.Ids {
		c := card(id, 0)
		if i < len(s.Keys) {
			c.Key = s.Keys[i]
		}
		if i < len(s.Lens) && s.Lens[i] > 0 && s.Lens[i] <= 120 {
			c.W = make([]string, s.Lens[i])
		}
		l = append(l, c)
	}
	for _, t := range s.Terms {
		for _, p := range t.P {
			for _, at := range p.At {
				if p.Doc >= 0 && p.Doc < len(l) && at >= 0 && at < len(l[p.Doc].W) {
					l[p.Doc].W[at] = t.T
				}
			}
		}
	}
	return l
}

// may is what May must answer: are there cards of which just this segment is built?
func may(s api.Seg) bool {
	u, e := built(loose(s), s.Sorted)
	return e == api.OK && same(u, s)
}

// row are all parts of a segment, with how many there are of each, one behind the other.
func row(s api.Seg) []string {
	out := []string{strconv.FormatBool(s.Sorted)}
	number := func(n int) { out = append(out, strconv.Itoa(n)) }
	number(len(s.Ids))
	out = append(out, s.Ids...)
	for _, l := range [][]int{s.Keys, s.Lens} {
		number(len(l))
		for _, n := range l {
			number(n)
		}
	}
	for _, t := range s.Terms {
		out = append(out, t.T)
		number(len(t.P))
		for _, p := range t.P {
			number(p.Doc)
			number(len(p.At))
			for _, n := range p.At {
				number(n)
			}
		}
	}
	return out
}

// same is what Same must answer.
func same(a, b api.Seg) bool { return slices.Equal(row(a), row(b)) }

func sameCard(a, b api.Card) bool { return a.Id == b.Id && a.Key == b.Key && slices.Equal(a.W, b.W) }

func sameCards(a, b []api.Card) bool { return slices.EqualFunc(a, b, sameCard) }

func samePosts(a, b []api.Post) bool {
	return slices.EqualFunc(a, b, func(p, q api.Post) bool { return p.Doc == q.Doc && slices.Equal(p.At, q.At) })
}

// copied is the same segment, of which nothing is shared.
func copied(s api.Seg) api.Seg {
	s.Ids, s.Keys, s.Lens, s.Terms = slices.Clone(s.Ids), slices.Clone(s.Keys), slices.Clone(s.Lens), slices.Clone(s.Terms)
	for i := range s.Terms {
		s.Terms[i].P = slices.Clone(s.Terms[i].P)
		for k := range s.Terms[i].P {
			s.Terms[i].P[k].At = slices.Clone(s.Terms[i].P[k].At)
		}
	}
	return s
}

func copiedCards(l []api.Card) []api.Card {
	l = slices.Clone(l)
	for i := range l {
		l[i].W = slices.Clone(l[i].W)
	}
	return l
}

// told are all parts of cards, one behind the other, as a text that an error may tell.
func told(l ...api.Card) string {
	var parts []string
	for _, c := range l {
		parts = append(append(parts, c.Id, strconv.Itoa(c.Key)), c.W...)
	}
	return short(parts)
}

// short is a text of parts that an error may tell.
func short(parts []string) string {
	s := strings.Join(parts, " ")
	if len(s) > 300 {
		return strconv.Quote(s[:300]) + ".."
	}
	return strconv.Quote(s)
}

func wantBuild(t *testing.T, l []api.Card, sorted bool, want api.Seg, e api.Errno) {
	t.Helper()
	was := copiedCards(l)
	got, gotE := seg.Build(l, sorted)
	if !same(got, want) || gotE != e {
		t.Errorf("Build of %d cards, %v: %s, %d; want %s, %d", len(l), sorted, short(row(got)), gotE, short(row(want)), e)
	}
	if !sameCards(l, was) {
		t.Errorf("Build of %d cards, %v, changed them", len(l), sorted)
	}
}

// wantError asks for the error both ways.
func wantError(t *testing.T, l []api.Card, e api.Errno) {
	t.Helper()
	wantBuild(t, l, false, api.Seg{}, e)
	wantBuild(t, l, true, api.Seg{}, e)
}

// made is the segment of cards that may be.
func made(t *testing.T, l []api.Card, sorted bool) api.Seg {
	t.Helper()
	s, e := seg.Build(l, sorted)
	if e != api.OK {
		t.Fatalf("Build of %d cards: %d", len(l), e)
	}
	return s
}

// all are the segments of cards, sorted and not.
func all(t *testing.T, lists [][]api.Card) []api.Seg {
	t.Helper()
	var out []api.Seg
	for _, l := range lists {
		out = append(out, made(t, l, false), made(t, l, true))
	}
	return out
}

// wantNothing asks that a segment may not be, and that nothing is told of it.
func wantNothing(t *testing.T, what string, s api.Seg) {
	t.Helper()
	was := copied(s)
	if may(s) || seg.May(s) {
		t.Errorf("%s: it may not be: %s", what, short(row(s)))
	}
	for _, id := range append([]string{"", "x", "y"}, s.Ids...) {
		if got := seg.Find(s, id); got != -1 {
			t.Errorf("%s: Find(%q): %d", what, id, got)
		}
	}
	words := []string{"", "a", "b"}
	for _, term := range s.Terms {
		words = append(words, term.T)
	}
	for _, word := range words[:min(len(words), 20)] {
		if got := seg.Has(s, word); len(got) != 0 {
			t.Errorf("%s: Has(%q): %v", what, word, got)
		}
	}
	for _, doc := range []int{-1, 0, 1, len(s.Ids) - 1, len(s.Ids)} {
		if got := seg.Words(s, doc); len(got) != 0 {
			t.Errorf("%s: Words(%d): %q", what, doc, got)
		}
		if c, is := seg.Card(s, doc); is || !sameCard(c, api.Card{}) {
			t.Errorf("%s: Card(%d): %s, %v", what, doc, told(c), is)
		}
	}
	if got := seg.Cards(s); len(got) != 0 {
		t.Errorf("%s: Cards: %s", what, told(got...))
	}
	if !seg.Same(s, was) || !same(s, was) {
		t.Errorf("%s: it is no more what it was", what)
	}
}

// P8.1: the key is held first, then the id, byte by byte; words are not, and any cards may be asked.
func TestBefore(t *testing.T) {
	keys := []int{math.MinInt, -1, 0, 1, 2, 9, 10, 1 << 30, 1<<30 + 1, math.MaxInt}
	ids := []string{"", "a", "a\x00", "a\xff", "aa", "ab", "b", "\x00", "\x00\x00", "\xff", "A", "9", "10", "é", strings.Repeat("a", 16), strings.Repeat("a", 17)}
	for _, k := range keys {
		for _, m := range keys {
			for _, i := range ids {
				for _, j := range ids {
					a, b := card(i, k, "b"), card(j, m, "a", "")
					if got := seg.Before(a, b); got != ahead(a, b) {
						t.Errorf("Before(%q %d, %q %d): %v", i, k, j, m, got)
					}
				}
			}
		}
	}
	for _, c := range []struct {
		a, b api.Card
		is   bool
	}{
		{card("b", 1), card("a", 2), true}, {card("a", 2), card("b", 1), false}, {card("a", 1), card("b", 1), true}, {card("b", 1), card("a", 1), false},
		{card("a", 1), card("a", 1), false}, {card("a", 1, "a"), card("a", 1, "b"), false}, {card("a", 1), card("a\x00", 1), true}, {card("~", 1), card("\x80", 1), true}, {api.Card{}, api.Card{}, false},
	} {
		if got := seg.Before(c.a, c.b); got != c.is {
			t.Errorf("Before(%s, %s): %v", told(c.a), told(c.b), got)
		}
	}
}

// P8.1: the chapter's example.
func TestBuildExample(t *testing.T) {
	x, y := card("x", 5, "a", "b", "a"), card("y", 2, "b")
	want := api.Seg{Ids: []string{"x", "y"}, Keys: []int{5, 2}, Lens: []int{3, 1}, Terms: []api.Term{
		{T: "a", P: []api.Post{{Doc: 0, At: []int{0, 2}}}}, {T: "b", P: []api.Post{{Doc: 0, At: []int{1}}, {Doc: 1, At: []int{0}}}}}}
	wantBuild(t, []api.Card{x, y}, false, want, api.OK)
	want = api.Seg{Ids: []string{"y", "x"}, Keys: []int{2, 5}, Lens: []int{1, 3}, Sorted: true, Terms: []api.Term{
		{T: "a", P: []api.Post{{Doc: 1, At: []int{0, 2}}}}, {T: "b", P: []api.Post{{Doc: 0, At: []int{0}}, {Doc: 1, At: []int{1}}}}}}
	wantBuild(t, []api.Card{x, y}, true, want, api.OK)
	wantBuild(t, []api.Card{y, x}, true, want, api.OK)
	want.Sorted = false
	wantBuild(t, []api.Card{y, x}, false, want, api.OK)
	wantBuild(t, nil, false, api.Seg{}, api.OK)
	wantBuild(t, nil, true, api.Seg{Sorted: true}, api.OK)
}

// P8.1: segments of all edges, and of cards as they happen.
func TestBuild(t *testing.T) {
	for _, l := range slices.Concat(edges(), mixed(400)) {
		for _, sorted := range []bool{false, true} {
			want, e := built(l, sorted)
			if e != api.OK {
				t.Fatalf("%d cards: %d", len(l), e)
			}
			wantBuild(t, l, sorted, want, api.OK)
		}
	}
}

// P8.1: sorted, the segment is the same in whatever order cards are handed over; not sorted, it keeps the order.
func TestBuildOrder(t *testing.T) {
	dice := rand.New(rand.NewSource(88))
	for _, l := range slices.Concat(edges(), mixed(30)) {
		want, _ := built(l, true)
		for range 5 {
			m := slices.Clone(l)
			dice.Shuffle(len(m), func(i, k int) { m[i], m[k] = m[k], m[i] })
			wantBuild(t, m, true, want, api.OK)
			s := made(t, m, false)
			for i, c := range m {
				if s.Ids[i] != c.Id || s.Keys[i] != c.Key || s.Lens[i] != len(c.W) || s.Sorted {
					t.Errorf("the document %d of %d: %q", i, len(m), s.Ids[i])
				}
			}
		}
		wantBuild(t, turned(l), true, want, api.OK)
		u := made(t, l, true)
		for i := 1; i < len(u.Ids); i++ {
			if !seg.Before(card(u.Ids[i-1], u.Keys[i-1]), card(u.Ids[i], u.Keys[i])) {
				t.Errorf("%q, %d is not ahead of %q, %d", u.Ids[i-1], u.Keys[i-1], u.Ids[i], u.Keys[i])
			}
		}
		wantBuild(t, seg.Cards(u), true, u, api.OK) // in order already
	}
}

// P8.1: a card that may not be, alone, as the first, the middle and the last one.
func TestBuildWrong(t *testing.T) {
	for _, c := range wrong() {
		if mayCard(c) {
			t.Fatalf("%s may be", told(c))
		}
		wantError(t, []api.Card{c}, api.ErrArg)
		for _, n := range []int{2, 9, 64} {
			for _, at := range []int{0, n / 2, n - 1} {
				l := plain(n)
				l[at] = c
				wantError(t, l, api.ErrArg)
			}
		}
	}
}

// P8.1: two cards of one id, whatever else they have, wherever they are.
func TestBuildTwice(t *testing.T) {
	wantError(t, []api.Card{card("x", 0), card("x", 0)}, api.ErrArg)
	wantError(t, []api.Card{card("x", 0, "a"), card("x", 1, "b")}, api.ErrArg)
	wantError(t, []api.Card{card("x", 0), card("y", 0), card("x", 9)}, api.ErrArg)
	wantError(t, []api.Card{card("\x00", 0), card("\xff", 0), card("\x00", 0)}, api.ErrArg)
	for _, n := range []int{2, 9, 64} {
		for _, at := range [][]int{{0, 1}, {0, n - 1}, {n - 2, n - 1}, {n - 1, 0}} {
			l := plain(n)
			l[at[0]].Id = l[at[1]].Id
			wantError(t, l, api.ErrArg)
		}
	}
	i := strings.Repeat("i", 15)
	wantError(t, []api.Card{card(i+"a", 0), card(i+"a", 1)}, api.ErrArg)
	want, _ := built([]api.Card{card(i+"a", 0), card(i+"b", 1), card(i, 2)}, false)
	wantBuild(t, []api.Card{card(i+"a", 0), card(i+"b", 1), card(i, 2)}, false, want, api.OK)
}

// P8.1: more cards, or more unlike words, than there may be.
func TestBuildLimit(t *testing.T) {
	for _, n := range []int{65, 66, 100} {
		wantError(t, plain(n), api.ErrLimit)
	}
	var none []api.Card
	for i := range 3000 {
		none = append(none, card("i"+strconv.Itoa(i), i))
	}
	wantError(t, none[:65], api.ErrLimit)
	wantError(t, none, api.ErrLimit)
	wantError(t, []api.Card{card("x", 1, numbered(0, 120)...), card("y", 1, numbered(120, 81)...)}, api.ErrLimit)
	wantError(t, []api.Card{card("x", 1, numbered(81, 120)...), card("y", 1, numbered(0, 120)...)}, api.ErrLimit)
	many := full()
	many[63].W[119] = "one more"
	wantError(t, many, api.ErrLimit)
	wantError(t, turned(many), api.ErrLimit)
	var each []api.Card // no card has many, all together have
	for i := range 64 {
		each = append(each, card("i"+strconv.Itoa(i), 0, numbered(i*4, 4)...))
	}
	wantError(t, each, api.ErrLimit)
	want, _ := built(each[:50], false)
	wantBuild(t, each[:50], false, want, api.OK)
	wantError(t, each[:51], api.ErrLimit)
}

// P8.1, R2: of several errors the one that is named first is told, whatever card it is of.
func TestBuildFirst(t *testing.T) {
	for _, c := range wrong() {
		for _, n := range []int{65, 66, 100} {
			for _, at := range []int{0, 63, 64, n - 1} {
				l := plain(n)
				l[at] = c
				wantError(t, l, api.ErrArg)
			}
		}
		for at := range 4 { // beside more than 200 unlike words
			l := []api.Card{card("v", 1, numbered(0, 120)...), card("w", 1, numbered(120, 120)...), card("y", 0)}
			wantError(t, slices.Insert(l, at, c), api.ErrArg)
		}
	}
	for _, at := range [][]int{{0, 1}, {0, 64}, {63, 64}, {64, 65}, {65, 0}} {
		l := plain(66)
		l[at[0]].Id = l[at[1]].Id
		wantError(t, l, api.ErrArg)
	}
	x, y, again := card("x", 1, numbered(0, 120)...), card("y", 1, numbered(120, 120)...), card("x", 2, "w1")
	for _, l := range [][]api.Card{{x, y, again}, {again, x, y}, {x, again, y}} {
		wantError(t, l, api.ErrArg)
	}
	l := full()
	l[63].W[119], l[62].Id = "one more", l[0].Id
	wantError(t, l, api.ErrArg)
	wantError(t, append(full(), card("more", 1, "one more")), api.ErrLimit)
}

// P8.2: what is built may be; so it may if it is in order, and not told to be.
func TestMay(t *testing.T) {
	for _, s := range all(t, slices.Concat(edges(), mixed(200))) {
		if !may(s) || !seg.May(s) {
			t.Errorf("%s may be", short(row(s)))
		}
		if u := copied(s); u.Sorted {
			u.Sorted = false
			if !seg.May(u) {
				t.Errorf("%s may be", short(row(u)))
			}
		}
	}
	for _, s := range []api.Seg{{}, {Sorted: true}, {Ids: []string{}, Keys: []int{}, Lens: []int{}, Terms: []api.Term{}}, {Ids: []string{"x"}, Keys: []int{1 << 30}, Lens: []int{0}}} {
		if !seg.May(s) {
			t.Errorf("%s may be", short(row(s)))
		}
	}
}

// at is a term.
func at(word string, l ...api.Post) api.Term { return api.Term{T: word, P: l} }

// on is a posting.
func on(doc int, places ...int) api.Post { return api.Post{Doc: doc, At: places} }

// faults are changes by which a segment of x (a b a), y (b) and z, that is sorted, may be no more.
func faults() map[string]func(s *api.Seg) {
	f := map[string]func(s *api.Seg){
		"an Id fewer":            func(s *api.Seg) { s.Ids = s.Ids[:2] },
		"a Key fewer":            func(s *api.Seg) { s.Keys = s.Keys[:2] },
		"a Lens fewer":           func(s *api.Seg) { s.Lens = s.Lens[:2] },
		"no Ids":                 func(s *api.Seg) { s.Ids = nil },
		"no Keys":                func(s *api.Seg) { s.Keys = nil },
		"no Lens":                func(s *api.Seg) { s.Lens = nil },
		"an Id more":             func(s *api.Seg) { s.Ids = append(s.Ids, "zz") },
		"a Key more":             func(s *api.Seg) { s.Keys = append(s.Keys, 9) },
		"a Lens more":            func(s *api.Seg) { s.Lens = append(s.Lens, 0) },
		"no documents":           func(s *api.Seg) { s.Ids, s.Keys, s.Lens = nil, nil, nil },
		"no Terms":               func(s *api.Seg) { s.Terms = nil },
		"a word fewer":           func(s *api.Seg) { s.Terms = s.Terms[:1] },
		"an Id twice":            func(s *api.Seg) { s.Ids[2] = "x" },
		"an empty Id":            func(s *api.Seg) { s.Ids[0] = "" },
		"a long Id":              func(s *api.Seg) { s.Ids[2] = strings.Repeat("z", 17) },
		"a Key of -1":            func(s *api.Seg) { s.Keys[0] = -1 },
		"a great Key":            func(s *api.Seg) { s.Keys[2] = 1<<30 + 1 },
		"keys that fall":         func(s *api.Seg) { s.Keys[0] = 3 },
		"ids that fall":          func(s *api.Seg) { s.Ids[0], s.Ids[1], s.Keys[1] = "y", "x", 1 },
		"words that fall":        func(s *api.Seg) { s.Terms[0], s.Terms[1] = s.Terms[1], s.Terms[0] },
		"a word twice":           func(s *api.Seg) { s.Terms[1].T = "a" },
		"an empty word":          func(s *api.Seg) { s.Terms[0].T = "" },
		"a long word":            func(s *api.Seg) { s.Terms[1].T = strings.Repeat("b", 33) },
		"a word too many":        func(s *api.Seg) { s.Terms = append(s.Terms, at("c")) },
		"an empty list":          func(s *api.Seg) { s.Terms = append(s.Terms, at("c", []api.Post{}...)) },
		"no postings":            func(s *api.Seg) { s.Terms[0].P = nil },
		"no places":              func(s *api.Seg) { s.Terms[1].P[1].At = nil },
		"a posting of no places": func(s *api.Seg) { s.Terms[1].P = append(s.Terms[1].P, on(2)) },
		"documents that fall":    func(s *api.Seg) { slices.Reverse(s.Terms[1].P) },
		"a document twice":       func(s *api.Seg) { s.Terms[0].P = []api.Post{on(0, 0), on(0, 2)} },
		"places that fall":       func(s *api.Seg) { slices.Reverse(s.Terms[0].P[0].At) },
		"a place twice":          func(s *api.Seg) { s.Terms[0].P[0].At = []int{0, 0, 2} },
		"a place of two words":   func(s *api.Seg) { s.Terms[1].P[0].At = []int{1, 2} },
		"a place of another":     func(s *api.Seg) { s.Terms[1].P[0].At = []int{0} },
		"a place of a third":     func(s *api.Seg) { s.Terms = append(s.Terms, at("c", on(1, 0))) },
		"a free place":           func(s *api.Seg) { s.Terms[0].P[0].At = []int{0} },
		"a free first place":     func(s *api.Seg) { s.Terms[0].P[0].At = []int{2} },
		"a free document":        func(s *api.Seg) { s.Terms[1].P = s.Terms[1].P[:1] },
		"a place of -1":          func(s *api.Seg) { s.Terms[0].P[0].At = []int{-1, 0, 2} },
		"a place beyond":         func(s *api.Seg) { s.Terms[1].P[1].At = []int{0, 1} },
		"a place beyond alone":   func(s *api.Seg) { s.Terms[1].P[1].At = []int{1} },
		"a place far beyond":     func(s *api.Seg) { s.Terms[0].P[0].At = []int{0, 2, math.MaxInt} },
		"the place 120":          func(s *api.Seg) { s.Terms[0].P[0].At = []int{0, 2, 120} },
		"a place of the empty":   func(s *api.Seg) { s.Terms[1].P = append(s.Terms[1].P, on(2, 0)) },
		"the document 3":         func(s *api.Seg) { s.Terms[1].P = append(s.Terms[1].P, on(3, 0)) },
		"the document 3 instead": func(s *api.Seg) { s.Terms[1].P[1].Doc = 3 },
		"the document -1":        func(s *api.Seg) { s.Terms[0].P[0].Doc = -1 },
		"the document 64":        func(s *api.Seg) { s.Terms[1].P[1].Doc = 64 },
		"a far document":         func(s *api.Seg) { s.Terms[1].P[1].Doc = math.MaxInt },
		"another document":       func(s *api.Seg) { s.Terms[1].P[1].Doc = 2 },
		"a word of no place":     func(s *api.Seg) { s.Terms[1].T, s.Terms[1].P = "", nil },
	}
	for doc := range 3 {
		for _, by := range []int{-200, -4, -2, -1, 1, 2, 120, 121, math.MinInt, math.MaxInt - 3} {
			f["a Lens of "+strconv.Itoa(doc)+" by "+strconv.Itoa(by)] = func(s *api.Seg) { s.Lens[doc] += by }
		}
		for other := range doc {
			f["a Lens of "+strconv.Itoa(doc)+" for "+strconv.Itoa(other)] = func(s *api.Seg) { s.Lens[doc]++; s.Lens[other]-- }
		}
	}
	return f
}

// P8.2: of a segment that may not be nothing is told, sorted or not.
func TestMayNot(t *testing.T) {
	inOrder := map[string]bool{"keys that fall": true, "ids that fall": true}
	for what, fault := range faults() {
		for _, sorted := range []bool{true, false} {
			s := made(t, []api.Card{card("x", 1, "a", "b", "a"), card("y", 2, "b"), card("z", 2)}, sorted)
			fault(&s)
			if inOrder[what] && !sorted {
				if !seg.May(s) {
					t.Errorf("%s: it is not sorted, and may be", what)
				}
				continue
			}
			wantNothing(t, what, s)
		}
	}
}

// P8.2: segments of too many documents or words, and far too great ones, which end at once.
func TestMayNotLimit(t *testing.T) {
	var s api.Seg
	for i := range 65 {
		s.Ids, s.Keys, s.Lens = append(s.Ids, string([]byte{'i', byte(i)})), append(s.Keys, i), append(s.Lens, 0)
	}
	wantNothing(t, "65 documents", s)
	s.Sorted = true
	wantNothing(t, "65 documents in order", s)
	u := api.Seg{Ids: []string{"x", "y"}, Keys: []int{0, 1}, Lens: []int{120, 81}}
	for i := range 201 {
		u.Terms = append(u.Terms, at(string([]byte{'w', byte(i)}), on(i/120, i%120)))
	}
	wantNothing(t, "201 words", u)
	u.Lens[1], u.Terms = 80, u.Terms[:200]
	if !seg.May(u) {
		t.Error("200 words may be")
	}
	v := made(t, []api.Card{card("x", 1, often("a", 120)...)}, false)
	v.Lens[0], v.Terms[0].P[0].At = 121, append(v.Terms[0].P[0].At, 120)
	wantNothing(t, "121 words", v)
	wantNothing(t, "long lists", api.Seg{Ids: make([]string, 100000), Keys: make([]int, 100000), Lens: make([]int, 100000)})
	wantNothing(t, "many words", api.Seg{Terms: make([]api.Term, 100000)})
	wantNothing(t, "many postings", api.Seg{Ids: []string{"x"}, Keys: []int{0}, Lens: []int{1}, Terms: []api.Term{{T: "a", P: make([]api.Post, 100000)}}})
	wantNothing(t, "many places", api.Seg{Ids: []string{"x"}, Keys: []int{0}, Lens: []int{1}, Terms: []api.Term{at("a", on(0, make([]int, 100000)...))}})
	wantNothing(t, "great lengths", api.Seg{Ids: []string{"x", "y"}, Keys: []int{0, 0}, Lens: []int{math.MaxInt, math.MaxInt}})
	wantNothing(t, "lengths that are nothing together", api.Seg{Ids: []string{"x", "y"}, Keys: []int{0, 0}, Lens: []int{1, -1}})
	wantNothing(t, "lengths that wrap round", api.Seg{Ids: []string{"x", "y"}, Keys: []int{0, 0}, Lens: []int{math.MinInt, math.MinInt}})
}

// P8.2: a document that is not in order, at each place, is one fault more than a sorted segment may have.
func TestMaySorted(t *testing.T) {
	for _, l := range [][]api.Card{plain(2), plain(3), plain(64)} {
		s := made(t, l, true)
		for i := 1; i < len(s.Ids); i++ {
			u := copied(s)
			u.Ids[i-1], u.Ids[i] = u.Ids[i], u.Ids[i-1]
			u.Keys[i-1], u.Keys[i] = u.Keys[i], u.Keys[i-1]
			if seg.May(u) || may(u) {
				t.Errorf("the documents %d and %d of %d are not in order", i-1, i, len(l))
			}
			u.Sorted = false
			if !seg.May(u) {
				t.Errorf("the documents %d and %d of %d need not be in order", i-1, i, len(l))
			}
		}
	}
}

// twist changes one part of a segment, as it happens.
func twist(dice *rand.Rand, s *api.Seg) {
	texts, numbers := []string{"", "a", "b", "ab", "x", "z"}, []int{-1, 0, 1, 2, 3, 120}
	text, number := texts[dice.Intn(len(texts))], numbers[dice.Intn(len(numbers))]
	some := func(n int) int { return dice.Intn(max(n, 1)) }
	doc, word := some(len(s.Ids)), some(len(s.Terms))
	switch what := dice.Intn(9); {
	case what == 0:
		s.Sorted = !s.Sorted
	case what == 1 && doc < len(s.Ids):
		s.Ids[doc] = text
	case what == 2 && doc < len(s.Keys):
		s.Keys[doc] = number
	case what == 3 && doc < len(s.Lens):
		s.Lens[doc] = number
	case what == 4:
		s.Ids, s.Keys, s.Lens = append(s.Ids, text), append(s.Keys, number), append(s.Lens, 0)
	case word >= len(s.Terms):
		s.Terms = append(s.Terms, at(text, on(doc, 0)))
	case what == 5:
		s.Terms[word].T = text
	case what == 6 && len(s.Terms[word].P) > 0:
		s.Terms[word].P[some(len(s.Terms[word].P))].Doc = number
	case what == 7 && len(s.Terms[word].P) > 0:
		p := &s.Terms[word].P[some(len(s.Terms[word].P))]
		p.At = slices.Insert(p.At, some(len(p.At)), number)
	default:
		if p := s.Terms[word].P; len(p) > 0 {
			last := &p[len(p)-1]
			last.At = last.At[:some(len(last.At))]
		}
	}
}

// P8.2: whatever is twisted of a segment: it may be, if it is that of some cards, and not otherwise.
func TestMayTwisted(t *testing.T) {
	dice := rand.New(rand.NewSource(888))
	lists := append(mixed(40), []api.Card{card("x", 1, "a", "b"), card("y", 2, "b")}, []api.Card{card("x", 1)}, nil)
	seen := map[bool]int{}
	for _, s := range all(t, lists) {
		for range 400 {
			u := copied(s)
			for range 1 + dice.Intn(3) {
				twist(dice, &u)
			}
			want := may(u)
			seen[want]++
			if got := seg.May(u); got != want {
				t.Errorf("May(%s): %v; want %v", short(row(u)), got, want)
			}
			var cards []api.Card
			if want {
				cards = loose(u)
			}
			if got := seg.Cards(u); !sameCards(got, cards) {
				t.Errorf("Cards(%s): %s; want %s", short(row(u)), told(got...), told(cards...))
			}
		}
	}
	if seen[true] < 1000 || seen[false] < 1000 {
		t.Errorf("%d may be, %d may not", seen[true], seen[false])
	}
}

// P8.2: each document is found by its id, and no other one.
func TestFind(t *testing.T) {
	for _, s := range all(t, slices.Concat(edges(), mixed(50))) {
		for doc, id := range s.Ids {
			if got := seg.Find(s, id); got != doc {
				t.Errorf("Find(%q): %d; want %d", id, got, doc)
			}
		}
		for _, id := range []string{"", "none", "A1", "\x00\xff\x00\xff\x00", strings.Repeat("i", 17), strings.Repeat("i", 15), "a\x00\x00\x00\x00"} {
			if got := seg.Find(s, id); got != -1 {
				t.Errorf("Find(%q): %d", id, got)
			}
		}
	}
}

// P8.2: each word has its postings, and what is none of them has nothing.
func TestHas(t *testing.T) {
	for _, s := range all(t, slices.Concat(edges(), mixed(50))) {
		cards := loose(s)
		words := []string{"", "none", "w", "w999", "a\x00\x00", strings.Repeat("a", 33), "\xff\xff\xff"}
		for i := 0; i < len(s.Terms); i += 1 + len(s.Terms)/40 {
			words = append(words, s.Terms[i].T)
		}
		for _, word := range words {
			var want []api.Post
			for doc, c := range cards {
				var at []int
				for i, w := range c.W {
					if w == word {
						at = append(at, i)
					}
				}
				if at != nil {
					want = append(want, api.Post{Doc: doc, At: at})
				}
			}
			if got := seg.Has(s, word); !samePosts(got, want) {
				t.Errorf("Has(%q): %v; want %v", word, got, want)
			}
		}
	}
}

// P8.2, P8.3: the cards of a segment, one by one and all, are those that it was built of; beyond them there is none.
func TestCards(t *testing.T) {
	for _, l := range slices.Concat(edges(), mixed(200)) {
		ordered := slices.Clone(l)
		sort.Slice(ordered, func(i, k int) bool { return ahead(ordered[i], ordered[k]) })
		for i, s := range all(t, [][]api.Card{l}) {
			want := [][]api.Card{l, ordered}[i]
			if got := seg.Cards(s); !sameCards(got, want) {
				t.Errorf("Cards: %s; want %s", told(got...), told(want...))
			}
			for doc, c := range want {
				if got, is := seg.Card(s, doc); !is || !sameCard(got, c) {
					t.Errorf("Card(%d): %s, %v; want %s", doc, told(got), is, told(c))
				}
				if got := seg.Words(s, doc); !slices.Equal(got, c.W) {
					t.Errorf("Words(%d): %q; want %q", doc, got, c.W)
				}
			}
			for _, doc := range []int{math.MinInt, -64, -1, len(l), len(l) + 1, 64, math.MaxInt} {
				if got, is := seg.Card(s, doc); is || !sameCard(got, api.Card{}) {
					t.Errorf("Card(%d) of %d: %s, %v", doc, len(l), told(got), is)
				}
				if got := seg.Words(s, doc); len(got) != 0 {
					t.Errorf("Words(%d) of %d: %q", doc, len(l), got)
				}
			}
			u := made(t, seg.Cards(s), s.Sorted)
			if !same(u, s) {
				t.Errorf("built anew: %s; want %s", short(row(u)), short(row(s)))
			}
		}
	}
}

// parts are segments that differ from a first one in one part alone, those that may not be among them.
func parts(t *testing.T) []api.Seg {
	t.Helper()
	first := made(t, []api.Card{card("x", 1, "a", "b", "a"), card("y", 2, "b")}, true)
	out := []api.Seg{first}
	for _, change := range []func(s *api.Seg){
		func(s *api.Seg) { s.Sorted = false },
		func(s *api.Seg) { s.Ids[0] = "w" },
		func(s *api.Seg) { s.Ids[1] = "z" },
		func(s *api.Seg) { s.Ids = s.Ids[:1] },
		func(s *api.Seg) { s.Ids = append(s.Ids, "") },
		func(s *api.Seg) { s.Keys[0] = 0 },
		func(s *api.Seg) { s.Keys[1] = 3 },
		func(s *api.Seg) { s.Keys = s.Keys[:1] },
		func(s *api.Seg) { s.Keys = append(s.Keys, 0) },
		func(s *api.Seg) { s.Lens[0] = 2 },
		func(s *api.Seg) { s.Lens[1] = 2 },
		func(s *api.Seg) { s.Lens = s.Lens[:1] },
		func(s *api.Seg) { s.Lens = append(s.Lens, 0) },
		func(s *api.Seg) { s.Terms[0].T = "A" },
		func(s *api.Seg) { s.Terms[1].T = "c" },
		func(s *api.Seg) { s.Terms = s.Terms[:1] },
		func(s *api.Seg) { s.Terms = append(s.Terms, api.Term{}) },
		func(s *api.Seg) { s.Terms[0], s.Terms[1] = s.Terms[1], s.Terms[0] },
		func(s *api.Seg) { s.Terms[0].P = nil },
		func(s *api.Seg) { s.Terms[1].P = s.Terms[1].P[:1] },
		func(s *api.Seg) { s.Terms[1].P[0].Doc = 5 },
		func(s *api.Seg) { s.Terms[1].P[1].Doc = 5 },
		func(s *api.Seg) { s.Terms[1].P = append(s.Terms[1].P, api.Post{}) },
		func(s *api.Seg) { s.Terms[0].P[0].At[0] = 1 },
		func(s *api.Seg) { s.Terms[0].P[0].At[1] = 1 },
		func(s *api.Seg) { s.Terms[0].P[0].At = []int{0} },
		func(s *api.Seg) { s.Terms[0].P[0].At = []int{2, 0} },
		func(s *api.Seg) { s.Terms[1].P[1].At = append(s.Terms[1].P[1].At, 0) },
		func(s *api.Seg) { *s = api.Seg{} },
		func(s *api.Seg) { *s = api.Seg{Sorted: true} },
		func(s *api.Seg) { *s = api.Seg{Ids: []string{""}} },
		func(s *api.Seg) { *s = api.Seg{Keys: []int{0}} },
		func(s *api.Seg) { *s = api.Seg{Lens: []int{0}} },
		func(s *api.Seg) { *s = api.Seg{Terms: []api.Term{{}}} },
	} {
		s := copied(first)
		change(&s)
		out = append(out, s)
	}
	return out
}

// P8.2: segments are the same, if all parts are, in order, whether they may be or not.
func TestSame(t *testing.T) {
	l := parts(t)
	for i, a := range l {
		for k, b := range l {
			if got := seg.Same(a, copied(b)); got != (i == k) {
				t.Errorf("Same of %d and %d: %v", i, k, got)
			}
		}
	}
	segs := all(t, slices.Concat(edges(), mixed(30)))
	for _, a := range segs {
		for _, b := range segs {
			if got := seg.Same(a, b); got != same(a, b) {
				t.Errorf("Same(%s, %s): %v", short(row(a)), short(row(b)), got)
			}
		}
	}
}

// R6: a list without elements may be nil or empty.
func TestEmptyLists(t *testing.T) {
	none := api.Seg{Ids: []string{}, Keys: []int{}, Lens: []int{}, Terms: []api.Term{}}
	if !seg.Same(none, api.Seg{}) || !seg.Same(api.Seg{}, none) || !seg.May(none) || len(seg.Cards(none)) != 0 {
		t.Error("without documents")
	}
	a := api.Seg{Terms: []api.Term{{T: "a", P: []api.Post{{At: []int{}}}}, {T: "b", P: []api.Post{}}}}
	b := api.Seg{Terms: []api.Term{{T: "a", P: []api.Post{{}}}, {T: "b"}}}
	if !seg.Same(a, b) {
		t.Error("without places")
	}
	s, e := seg.Build([]api.Card{{Id: "x", W: []string{}}}, false)
	u, f := seg.Build([]api.Card{{Id: "x"}}, false)
	if e != api.OK || f != api.OK || !seg.Same(s, u) {
		t.Error("without words")
	}
}

// spoil changes all that a segment has, to the last place.
func spoil(s api.Seg) {
	for i := range s.Ids {
		s.Ids[i] = "spoilt"
	}
	for _, l := range [][]int{s.Keys, s.Lens} {
		for i := range l {
			l[i] = 77
		}
	}
	for i := range s.Terms {
		spoilPosts(s.Terms[i].P)
		s.Terms[i] = api.Term{T: "spoilt"}
	}
}

func spoilPosts(l []api.Post) {
	for i := range l {
		for k := range l[i].At {
			l[i].At[k] = 77
		}
		l[i] = api.Post{Doc: 77}
	}
}

func spoilCards(l []api.Card) {
	for i := range l {
		spoilWords(l[i].W)
		l[i] = api.Card{Id: "spoilt", Key: 77}
	}
}

func spoilWords(l []string) {
	for i := range l {
		l[i] = "spoilt"
	}
}

// R3: later changes of cards change nothing of the segment, nor those of the segment anything of the cards.
func TestBuildIsNew(t *testing.T) {
	for _, l := range slices.Concat(edges(), mixed(20)) {
		for _, sorted := range []bool{false, true} {
			mine := copiedCards(l)
			s := made(t, mine, sorted)
			want, _ := built(l, sorted)
			spoilCards(mine)
			if !same(s, want) {
				t.Errorf("the segment of %d cards hangs on them", len(l))
			}
			mine = copiedCards(l)
			s = made(t, mine, sorted)
			spoil(s)
			if !sameCards(mine, l) {
				t.Errorf("%d cards hang on their segment", len(l))
			}
		}
	}
}

// R3: what is told of a segment is new, and the segment stays as it was.
func TestAskedIsNew(t *testing.T) {
	for _, s := range all(t, slices.Concat(edges(), mixed(20))) {
		was := copied(s)
		cards := loose(s)
		words := []string{"none"}
		for i := 0; i < len(s.Terms); i += 1 + len(s.Terms)/40 {
			words = append(words, s.Terms[i].T)
		}
		for _, word := range words {
			spoilPosts(seg.Has(s, word))
		}
		for doc := range s.Ids {
			spoilWords(seg.Words(s, doc))
			c, _ := seg.Card(s, doc)
			spoilWords(c.W)
		}
		spoilCards(seg.Cards(s))
		for _, id := range s.Ids {
			seg.Find(s, id)
		}
		if !seg.May(s) || !same(s, was) {
			t.Errorf("%s is no more what it was", short(row(was)))
		}
		after, first := seg.Cards(s), seg.Words(s, 0)
		spoil(s)
		if !sameCards(after, cards) || len(cards) > 0 && !slices.Equal(first, cards[0].W) {
			t.Errorf("the cards of %s hang on it", short(row(was)))
		}
	}
}

// R3: no two lists of an answer share memory: what is put behind one is not to be seen in another.
func TestListsAreApart(t *testing.T) {
	for _, l := range slices.Concat(edges(), mixed(20)) {
		s := made(t, l, false)
		want := copied(s)
		for i := range s.Terms {
			for k := range s.Terms[i].P {
				_ = append(s.Terms[i].P[k].At, 77)
			}
			_ = append(s.Terms[i].P, api.Post{Doc: 77})
		}
		_, _, _ = append(s.Ids, "spoilt"), append(s.Keys, 77), append(s.Lens, 77)
		if !same(s, want) {
			t.Errorf("lists of %s are not apart", short(row(want)))
		}
		cards := seg.Cards(s)
		for i := range cards {
			_ = append(cards[i].W, "spoilt")
		}
		if !sameCards(cards, l) {
			t.Errorf("the cards of %s are not apart", short(row(want)))
		}
	}
}

// R3: what lies behind a list's length is neither read nor changed.
func TestBehindTheLength(t *testing.T) {
	w := []string{"a", "b", "behind"}
	l := []api.Card{{Id: "y", Key: 2, W: w[:2]}, {Id: "x", Key: 1, W: w[1:2]}, {Id: "", Key: -1}}
	for _, sorted := range []bool{false, true} {
		want, _ := built([]api.Card{card("y", 2, "a", "b"), card("x", 1, "b")}, sorted)
		wantBuild(t, l[:2], sorted, want, api.OK)
		if w[2] != "behind" || l[2].Key != -1 {
			t.Error("what lay behind is changed")
		}
	}
	s := made(t, []api.Card{card("x", 1, "a", "b", "a"), card("y", 2, "b")}, true)
	at := []int{0, 2, 77, 78}
	p := []api.Post{{Doc: 0, At: at[:2]}, {Doc: 77, At: []int{77}}}
	u := api.Seg{Ids: append(slices.Clone(s.Ids), "x")[:2], Keys: append(slices.Clone(s.Keys), -1)[:2], Lens: append(slices.Clone(s.Lens), -1)[:2], Terms: append(slices.Clone(s.Terms), api.Term{})[:2], Sorted: true}
	u.Terms[0].P = p[:1]
	if !seg.May(u) || !seg.Same(s, u) || !sameCards(seg.Cards(u), seg.Cards(s)) || !samePosts(seg.Has(u, "a"), s.Terms[0].P) {
		t.Error("what lies behind is read")
	}
	_ = append(seg.Has(u, "a"), api.Post{Doc: 1})
	_ = append(seg.Has(u, "a")[0].At, 1)
	if !slices.Equal(at, []int{0, 2, 77, 78}) || p[1].Doc != 77 || u.Ids[:3][2] != "x" || u.Keys[:3][2] != -1 || u.Lens[:3][2] != -1 {
		t.Error("what lay behind is changed")
	}
}

// R5: asked again the same is told.
func TestAgain(t *testing.T) {
	l := full()
	first := made(t, l, true)
	for range 5 {
		if s := made(t, l, true); !same(s, first) || !sameCards(seg.Cards(s), seg.Cards(first)) {
			t.Error("another segment")
		}
		seg.Build(wrong(), true)
	}
}
