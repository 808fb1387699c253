package merge_test

import (
	"bytes"
	"math"
	"math/rand"
	"slices"
	"sort"
	"strconv"
	"strings"
	"testing"

	"catchword/api"
	"catchword/merge"
	"catchword/remap"
	"catchword/seg"
)

// part is of what a segment is built, whether it is sorted, and who of its documents lives: by an x one that does, by a dot one that is dead.
type part struct {
	sorted bool
	lives  string
	cards  []api.Card
}

func card(id string, key int, w ...string) api.Card { return api.Card{Id: id, Key: key, W: w} }

// loose is a part that is not sorted.
func loose(lives string, l ...api.Card) part { return part{false, lives, l} }

// ranked is a part that is sorted.
func ranked(lives string, l ...api.Card) part { return part{true, lives, l} }

// numbered are unlike words, as many as many says, from the first number on.
func numbered(first, many int) []string {
	var l []string
	for i := range many {
		l = append(l, "w"+strconv.Itoa(first+i))
	}
	return l
}

// often is a word as often as many says.
func often(word string, many int) []string { return slices.Repeat([]string{word}, many) }

// some are cards of unlike ids that begin with name, each with a word of its own, one of its name, and one of all of them, twice.
func some(name string, many int) []api.Card {
	var l []api.Card
	for i := range many {
		n := strconv.Itoa(i * 37 % 101)
		l = append(l, card(name+n, i*53%19, "all", n, name, "all"))
	}
	return l
}

// bare are cards of unlike ids without words.
func bare(name string, many int) []api.Card {
	l := some(name, many)
	for i := range l {
		l[i].W = nil
	}
	return l
}

// ahead tells whether a comes ahead of b where cards are put in order.
func ahead(a, b api.Card) bool {
	if a.Key != b.Key {
		return a.Key < b.Key
	}
	return bytes.Compare([]byte(a.Id), []byte(b.Id)) < 0
}

// docs are the cards of a part as its segment has them.
func (p part) docs() []api.Card {
	l := slices.Clone(p.cards)
	if p.sorted {
		sort.Slice(l, func(i, k int) bool { return ahead(l[i], l[k]) })
	}
	return l
}

// alive is who of a part lives.
func (p part) alive() []bool {
	var l []bool
	for i := range p.lives {
		l = append(l, p.lives[i] == 'x')
	}
	return l
}

// lefts are what Left must answer of parts.
func lefts(parts []part) []api.Card {
	var out []api.Card
	for _, p := range parts {
		for i, c := range p.docs() {
			if p.lives[i] == 'x' {
				out = append(out, c)
			}
		}
	}
	return out
}

// placed are the tables that Merge must answer of parts: each that lives stands behind as many as come ahead of it.
func placed(parts []part, sorted bool) [][]int {
	all, many := lefts(parts), 0
	var out [][]int
	for _, p := range parts {
		var table []int
		for i, c := range p.docs() {
			place := -1
			if p.lives[i] == 'x' {
				place = many
				many++
			}
			if place != -1 && sorted {
				place = 0
				for _, d := range all {
					if ahead(d, c) {
						place++
					}
				}
			}
			table = append(table, place)
		}
		out = append(out, table)
	}
	return out
}

// refused is the error that Merge must answer of parts whose segments may be, and that have a list each.
func refused(parts []part) api.Errno {
	all := lefts(parts)
	ids, words := map[string]int{}, map[string]int{}
	for _, c := range all {
		ids[c.Id]++
		for _, w := range c.W {
			words[w]++
		}
	}
	switch {
	case len(ids) < len(all):
		return api.ErrArg
	case len(all) > 64 || len(words) > 200:
		return api.ErrLimit
	}
	return api.OK
}

func sameCards(a, b []api.Card) bool {
	return slices.EqualFunc(a, b, func(c, d api.Card) bool { return c.Id == d.Id && c.Key == d.Key && slices.Equal(c.W, d.W) })
}

func sameTables(a, b [][]int) bool { return slices.EqualFunc(a, b, slices.Equal[[]int]) }

func sameLives(a, b [][]bool) bool { return slices.EqualFunc(a, b, slices.Equal[[]bool]) }

func sameSegs(a, b []api.Seg) bool { return slices.EqualFunc(a, b, seg.Same) }

// told are all parts of cards as a text that an error may tell.
func told(l []api.Card) string {
	var parts []string
	for _, c := range l {
		parts = append(append(parts, c.Id, strconv.Itoa(c.Key)), c.W...)
	}
	s := strings.Join(parts, " ")
	return strconv.Quote(s[:min(len(s), 300)])
}

// name is a text by which an error tells of parts.
func name(parts []part) string {
	s := strconv.Itoa(len(parts)) + " segments"
	for _, p := range parts[:min(len(parts), 8)] {
		s += ", " + strconv.Itoa(len(p.cards)) + " documents " + p.lives
		if p.sorted {
			s += " sorted"
		}
	}
	return s
}

// made is the segment of cards that may be.
func made(t *testing.T, sorted bool, l ...api.Card) api.Seg {
	t.Helper()
	s, e := seg.Build(l, sorted)
	if e != api.OK {
		t.Fatalf("Build of %d cards: %d", len(l), e)
	}
	return s
}

// of are the segments of parts, and who lives.
func of(t *testing.T, parts []part) ([]api.Seg, [][]bool) {
	t.Helper()
	var l []api.Seg
	var lives [][]bool
	for _, p := range parts {
		if len(p.lives) != len(p.cards) {
			t.Fatalf("%d documents, of which %s", len(p.cards), p.lives)
		}
		l, lives = append(l, made(t, p.sorted, p.cards...)), append(lives, p.alive())
	}
	return l, lives
}

// copied is the same segment, of which nothing is shared.
func copied(s api.Seg) api.Seg {
	s.Ids, s.Keys, s.Lens, s.Terms = slices.Clone(s.Ids), slices.Clone(s.Keys), slices.Clone(s.Lens), slices.Clone(s.Terms)
	for i := range s.Terms {
		s.Terms[i].P = slices.Clone(s.Terms[i].P)
		for k := range s.Terms[i].P {
			s.Terms[i].P[k].At = slices.Clone(s.Terms[i].P[k].At)
		}
	}
	return s
}

func copiedAll(l []api.Seg) []api.Seg {
	var out []api.Seg
	for _, s := range l {
		out = append(out, copied(s))
	}
	return out
}

func copiedLives(l [][]bool) [][]bool {
	var out [][]bool
	for _, alive := range l {
		out = append(out, slices.Clone(alive))
	}
	return out
}

// wantError asks that segments are not merged, sorted or not, but the error is told, and nothing beside it.
func wantError(t *testing.T, what string, l []api.Seg, lives [][]bool, e api.Errno) {
	t.Helper()
	was, wasLives := copiedAll(l), copiedLives(lives)
	for _, sorted := range []bool{false, true} {
		s, tables, got := merge.Merge(l, lives, sorted)
		if got != e || !seg.Same(s, api.Seg{}) || len(tables) != 0 {
			t.Errorf("%s, %v: %d, %d documents, %d tables; want %d", what, sorted, got, len(s.Ids), len(tables), e)
		}
	}
	if !sameSegs(l, was) || !sameLives(lives, wasLives) {
		t.Errorf("%s: what is handed in is changed", what)
	}
}

// wantNothing asks that nothing is told of what may not be merged.
func wantNothing(t *testing.T, what string, l []api.Seg, lives [][]bool) {
	t.Helper()
	wantError(t, what, l, lives, api.ErrArg)
	if got := merge.Left(l, lives); len(got) != 0 {
		t.Errorf("%s: Left: %s", what, told(got))
	}
}

// wantOne asks that parts are merged to what Build makes of what lives, with the tables of that.
func wantOne(t *testing.T, parts []part, sorted bool) {
	t.Helper()
	l, lives := of(t, parts)
	all, tables := lefts(parts), placed(parts, sorted)
	want := made(t, sorted, all...)
	s, got, e := merge.Merge(l, lives, sorted)
	if e != api.OK || !seg.Same(s, want) || !seg.May(s) || s.Sorted != sorted {
		t.Errorf("Merge of %s, %v: %d, the cards %s; want %s", name(parts), sorted, e, told(seg.Cards(s)), told(all))
	}
	if !sameTables(got, tables) {
		t.Errorf("Merge of %s, %v: the tables %v; want %v", name(parts), sorted, got, tables)
	}
	wantTold(t, parts, s, got)
}

// wantTold asks that each document that lives is in a segment where its table tells, and nothing else is there, nor told.
func wantTold(t *testing.T, parts []part, s api.Seg, tables [][]int) {
	t.Helper()
	taken := map[int]bool{}
	for i, p := range parts[:min(len(parts), len(tables))] {
		for doc, c := range p.docs()[:min(len(p.cards), len(tables[i]))] {
			place := tables[i][doc]
			if p.lives[doc] != 'x' {
				if place != -1 {
					t.Errorf("%s: %q is dead, and gets %d", name(parts), c.Id, place)
				}
				continue
			}
			d, is := seg.Card(s, place)
			if !is || taken[place] || !sameCards([]api.Card{c}, []api.Card{d}) {
				t.Errorf("%s: %s gets %d, where %s is, %v", name(parts), told([]api.Card{c}), place, told([]api.Card{d}), is)
			}
			taken[place] = true
		}
	}
	if len(taken) != len(s.Ids) || len(tables) != len(parts) {
		t.Errorf("%s: %d documents of %d are told by %d tables", name(parts), len(taken), len(s.Ids), len(tables))
	}
}

// want asks of parts, sorted and not, that they are merged, or that the error that must be is told; and what is left of them.
func want(t *testing.T, parts ...part) {
	t.Helper()
	l, lives := of(t, parts)
	was, wasLives := copiedAll(l), copiedLives(lives)
	if got := merge.Left(l, lives); !sameCards(got, lefts(parts)) {
		t.Errorf("Left of %s: %s; want %s", name(parts), told(got), told(lefts(parts)))
	}
	if !sameSegs(l, was) || !sameLives(lives, wasLives) {
		t.Errorf("Left changes %s", name(parts))
	}
	if e := refused(parts); e != api.OK {
		wantError(t, name(parts), l, lives, e)
		return
	}
	wantOne(t, parts, false)
	wantOne(t, parts, true)
	for _, sorted := range []bool{false, true} {
		merge.Merge(l, lives, sorted)
		if !sameSegs(l, was) || !sameLives(lives, wasLives) {
			t.Errorf("Merge changes %s", name(parts))
		}
	}
}

// wantRefused asks of parts for the error.
func wantRefused(t *testing.T, e api.Errno, parts ...part) {
	t.Helper()
	if got := refused(parts); got != e {
		t.Errorf("%s: %d must be told, and not %d", name(parts), got, e)
	}
	want(t, parts...)
}

// patterns are who lives of many: nobody, all, only the first, only the last, all but these, and mixed.
func patterns(many int) []string {
	none, all := strings.Repeat(".", many), strings.Repeat("x", many)
	out := []string{none, all, strings.Repeat("x..x.xx", 10)[:many]}
	if many > 0 {
		out = append(out, "x"+none[1:], none[1:]+"x", "."+all[1:], all[1:]+".")
	}
	return out
}

// texts are all texts of x and dot of as many signs as many says.
func texts(many int) []string {
	out := []string{""}
	for range many {
		var next []string
		for _, s := range out {
			next = append(next, s+"x", s+".")
		}
		out = next
	}
	return out
}

// three are cards of one segment, of another one, and of a third, which have words together, and keys that lie between each other's.
func three() (a, b, c []api.Card) {
	a = []api.Card{card("x", 5, "q", "a"), card("y", 2, "b"), card("w", 9, "z")}
	b = []api.Card{card("v", 3, "a", "b", "a")}
	c = []api.Card{card("u", 7), card("t", 2, "b", "b", "c")}
	return a, b, c
}

// P11.1, P11.2: the chapter's example, and that of the whole.
func TestExample(t *testing.T) {
	l := []api.Seg{made(t, false, card("x", 0, "a"), card("y", 0, "b", "a")), made(t, false, card("z", 0, "a"))}
	lives := [][]bool{{false, true}, {true}}
	for _, sorted := range []bool{false, true} {
		s, tables, e := merge.Merge(l, lives, sorted)
		want := api.Seg{Ids: []string{"y", "z"}, Keys: []int{0, 0}, Lens: []int{2, 1}, Sorted: sorted, Terms: []api.Term{
			{T: "a", P: []api.Post{{Doc: 0, At: []int{1}}, {Doc: 1, At: []int{0}}}}, {T: "b", P: []api.Post{{Doc: 0, At: []int{0}}}}}}
		if e != api.OK || !seg.Same(s, want) || !sameTables(tables, [][]int{{-1, 0}, {1}}) {
			t.Errorf("%d: %v %v", e, s, tables)
		}
	}
	if got := merge.Left(l, lives); !sameCards(got, []api.Card{card("y", 0, "b", "a"), card("z", 0, "a")}) {
		t.Errorf("Left: %s", told(got))
	}
}

// P11.2: written out by hand: the keys of what lives lie between one another, and one segment is sorted, the other one is not.
func TestMergeByHand(t *testing.T) {
	a, b, _ := three()
	l := []api.Seg{made(t, false, a...), made(t, true, b...)}
	lives := [][]bool{{true, true, false}, {true}}
	on := func(doc int, at ...int) api.Post { return api.Post{Doc: doc, At: at} }
	s, tables, e := merge.Merge(l, lives, true)
	want := api.Seg{Ids: []string{"y", "v", "x"}, Keys: []int{2, 3, 5}, Lens: []int{1, 3, 2}, Sorted: true, Terms: []api.Term{
		{T: "a", P: []api.Post{on(1, 0, 2), on(2, 1)}}, {T: "b", P: []api.Post{on(0, 0), on(1, 1)}}, {T: "q", P: []api.Post{on(2, 0)}}}}
	if e != api.OK || !seg.Same(s, want) || !sameTables(tables, [][]int{{2, 0, -1}, {1}}) {
		t.Errorf("%d: %v %v", e, s, tables)
	}
	s, tables, e = merge.Merge(l, lives, false)
	want = api.Seg{Ids: []string{"x", "y", "v"}, Keys: []int{5, 2, 3}, Lens: []int{2, 1, 3}, Terms: []api.Term{
		{T: "a", P: []api.Post{on(0, 1), on(2, 0, 2)}}, {T: "b", P: []api.Post{on(1, 0), on(2, 1)}}, {T: "q", P: []api.Post{on(0, 0)}}}}
	if e != api.OK || !seg.Same(s, want) || !sameTables(tables, [][]int{{0, 1, -1}, {2}}) {
		t.Errorf("%d: %v %v", e, s, tables)
	}
}

// P11.1, P11.2: three segments, each sorted or not, whoever of them lives.
func TestMergeWhoeverLives(t *testing.T) {
	a, b, c := three()
	for sorts := range 8 {
		for _, lives := range texts(6) {
			want(t, part{sorts&1 > 0, lives[:3], a}, part{sorts&2 > 0, lives[3:4], b}, part{sorts&4 > 0, lives[4:], c})
		}
	}
}

// P11.1, P11.2: no segments are made an empty one.
func TestMergeNone(t *testing.T) {
	want(t)
	for _, sorted := range []bool{false, true} {
		for _, l := range [][]api.Seg{nil, {}} {
			for _, lives := range [][][]bool{nil, {}} {
				s, tables, e := merge.Merge(l, lives, sorted)
				if e != api.OK || !seg.Same(s, api.Seg{Sorted: sorted}) || len(tables) != 0 || len(merge.Left(l, lives)) != 0 {
					t.Errorf("of no segments, %v: %d %v %v", sorted, e, s, tables)
				}
			}
		}
	}
}

// P11.1, P11.2: one segment, of no, one, few and 64 documents, whoever lives.
func TestMergeOne(t *testing.T) {
	for _, many := range []int{0, 1, 2, 3, 31, 63, 64} {
		for _, lives := range patterns(many) {
			for _, l := range [][]api.Card{some("i", many), bare("i", many)} {
				want(t, loose(lives, l...))
				want(t, ranked(lives, l...))
			}
		}
	}
}

// P11.1, P11.2: two segments, of all such sizes, whoever lives, as many as may be and one more.
func TestMergeTwo(t *testing.T) {
	for _, many := range []int{0, 1, 2, 32, 33, 64} {
		for _, more := range []int{0, 1, 32, 64} {
			for _, lives := range patterns(many) {
				for _, others := range patterns(more) {
					want(t, loose(lives, some("i", many)...), ranked(others, some("j", more)...))
				}
			}
		}
	}
}

// P11.2: many segments, of which 64 documents live, and those of 65.
func TestMergeMany(t *testing.T) {
	for _, many := range []int{1, 2, 4, 13, 16, 17, 63, 64, 65, 66, 200} {
		for _, size := range []int{0, 1, 2, 4, 5} {
			var parts, fewer []part
			for i := range many {
				l := some("i"+strconv.Itoa(i)+"/", size)
				parts = append(parts, part{i%2 == 0, strings.Repeat("x", size), l})
				dead := strings.Repeat(".", size)
				if i < 64 && size > 0 {
					dead = dead[1:] + "x"
				}
				fewer = append(fewer, part{i%3 == 0, dead, l})
			}
			want(t, parts...)
			want(t, fewer...)
		}
	}
}

// P11.2: of which segments 64 or 65 live: just these, with dead ones ahead, between, and behind.
func TestMergeLimitOfDocuments(t *testing.T) {
	all := strings.Repeat("x", 64)
	want(t, loose(all, bare("i", 64)...), loose("", bare("j", 0)...))
	want(t, loose(all, bare("i", 64)...), loose(".", bare("j", 1)...))
	want(t, loose(".", bare("j", 1)...), ranked(all, bare("i", 64)...), ranked("..", bare("k", 2)...))
	want(t, loose(all[1:]+".", bare("i", 64)...), loose("x", bare("j", 1)...))
	want(t, loose("."+all[1:], bare("i", 64)...), loose("x", bare("j", 1)...))
	want(t, loose("."+all[1:], bare("i", 64)...), loose("x", bare("i", 64)[:1]...))
	wantRefused(t, api.ErrLimit, loose(all, bare("i", 64)...), loose("x", bare("j", 1)...))
	wantRefused(t, api.ErrLimit, loose("x", bare("j", 1)...), ranked(all, bare("i", 64)...))
	wantRefused(t, api.ErrLimit, loose(all[:32], bare("i", 32)...), loose("", bare("j", 0)...), ranked(all[:33], bare("k", 33)...))
	wantRefused(t, api.ErrLimit, loose("."+all[1:], bare("i", 64)...), ranked("x.x", bare("j", 3)...))
	wantRefused(t, api.ErrLimit, loose(all, bare("i", 64)...), loose(all, bare("j", 64)...))
}

// P11.2: what lives has 200 unlike words, or 201; the words of the dead alone do not count.
func TestMergeLimitOfWords(t *testing.T) {
	a := card("a", 4, numbered(0, 120)...)
	b := card("b", 3, numbered(120, 80)...)
	more := card("c", 2, "w200")
	again := card("d", 1, "w0", "w199", "w0")
	want(t, loose("x", a), loose("x", b))
	want(t, loose("xx", a, b), loose("x", again))
	want(t, ranked("x", again), ranked("xx", a, b))
	want(t, loose("xx", a, b), loose(".", more))
	want(t, loose("xx", a, b), loose(".x", more, again))
	want(t, ranked("x.", more, a), loose("x", b))
	want(t, loose("x", a), loose("x", card("b", 3, numbered(100, 100)...)))
	wantRefused(t, api.ErrLimit, loose("xx", a, b), loose("x", more))
	wantRefused(t, api.ErrLimit, loose("x", more), loose("xx", a, b))
	wantRefused(t, api.ErrLimit, loose("x", a), ranked("x", again), loose("x", b), ranked("x", more))
	wantRefused(t, api.ErrLimit, loose("x", a), loose("x", card("b", 3, numbered(120, 81)...)))
	wantRefused(t, api.ErrLimit, loose("x", a), loose("x", card("b", 3, numbered(120, 120)...)))
	for _, lives := range texts(4) {
		want(t, loose(lives[:1], a), loose(lives[1:3], b, more), ranked(lives[3:], again))
	}
	two := card("e", 9, numbered(200, 2)...)
	for _, lives := range texts(3) {
		want(t, loose("x"+lives[:1], a, more), ranked("x"+lives[1:], b, again, two))
	}
}

// P11.2, P11.3: documents without words, and of 120.
func TestMergeLongAndEmpty(t *testing.T) {
	l := []api.Card{card("n", 3), card("o", 1, often("a", 120)...), card("p", 2, numbered(0, 120)...), card("q", 0), card("r", 2, append(numbered(0, 119), "a")...)}
	for _, lives := range texts(5) {
		for at := range 6 {
			want(t, loose(lives[:at], l[:at]...), ranked(lives[at:], l[at:]...))
		}
	}
}

// P11.2: words whose documents are all dead, that stand in one segment alone, in all of them, and at several places of one document.
func TestMergeWords(t *testing.T) {
	a := []api.Card{card("a", 1, "all", "first", "all"), card("b", 2, "dead", "all"), card("c", 3, "one", "dead", "one")}
	b := []api.Card{card("d", 1, "dead", "dead"), card("e", 0, "all", "b", "all", "b", "all")}
	c := []api.Card{card("f", 1, "all"), card("g", 1, "last", "all"), card("h", 1)}
	for _, lives := range texts(8) {
		want(t, loose(lives[:3], a...), ranked(lives[3:5], b...), loose(lives[5:], c...))
	}
	l, alive := of(t, []part{loose("x..", a...), loose(".x", b...), loose("x.x", c...)})
	s, _, e := merge.Merge(l, alive, false)
	if e != api.OK || len(s.Terms) != 3 || len(seg.Has(s, "all")) != 3 || len(seg.Has(s, "dead")) != 0 || len(seg.Has(s, "last")) != 0 {
		t.Errorf("%d: %v", e, s.Terms)
	}
}

// P11.2: keys that are the same, of ids one of which begins the other, and with bytes of 0 and 255; the least and the greatest key.
func TestMergeKeysAndIds(t *testing.T) {
	ids := []string{"ab", "a", "a\x00", "a\xff", "\x00", "\xff", "\xff\xff", "\x00\x00", "b", "A", "9", "10", "aa", strings.Repeat("a", 16), "a\x00\x00", "é"}
	for _, keys := range [][]int{{4}, {0}, {1 << 30}, {0, 1 << 30}, {1 << 30, 0, 1<<30 - 1}, {2, 1}, {10, 9, 1, 11, 2}, {1 << 29, 1, 0, 1 << 8, 255}} {
		parts := make([]part, 3)
		for i, id := range ids {
			p := &parts[i%3]
			p.cards, p.lives = append(p.cards, card(id, keys[i%len(keys)], id, "a")), p.lives+"x"
		}
		for sorts := range 8 {
			for i := range parts {
				parts[i].sorted = sorts>>i&1 > 0
			}
			want(t, parts...)
		}
		for i := range parts {
			for _, lives := range patterns(len(parts[i].cards)) {
				other := slices.Clone(parts)
				other[i].lives = lives
				want(t, other...)
			}
		}
	}
}

// P11.2: words of any bytes that may be words are words of what is made.
func TestMergeBytesOfWords(t *testing.T) {
	w := []string{"\x00", "\xff", "\x00\x00", "\xff\x00", "a\xff", "a\x00", "a", "A", "é", " ", strings.Repeat("a", 32), strings.Repeat("b", 32), strings.Repeat("a", 31)}
	r := slices.Clone(w)
	slices.Reverse(r)
	want(t, loose("xx", card("x", 1, w...), card("y", 1, r...)), ranked("x.", card("v", 1, w[3:9]...), card("w", 1, "dead")), loose("x", card("u", 0, r[2:]...)))
}

// P11.2: two that live have one id: neighbours, and further apart, of the same key and words and of others; it is none, if one of them is dead.
func TestMergeOneIdTwice(t *testing.T) {
	x, other := card("x", 1, "a"), card("x", 2, "b")
	for _, again := range []api.Card{x, other} {
		wantRefused(t, api.ErrArg, loose("x", x), loose("x", again))
		for _, lives := range texts(5) {
			want(t, loose(lives[:2], card("v", 0, "v"), x), loose(lives[2:4], again, card("w", 5)), loose(lives[4:], card("u", 3)))
			want(t, loose(lives[:2], x, card("v", 0, "v")), ranked(lives[2:3], card("u", 3)), ranked(lives[3:], card("w", 5), again))
			want(t, ranked(lives[:1], x), loose("", bare("i", 0)...), loose("x", card("u", 1)), ranked(lives[1:2], again), loose(lives[2:4], card("y", 0), other), loose(lives[4:], card("z", 1)))
		}
	}
	for _, many := range []int{2, 3, 16} {
		dead := slices.Repeat([]part{loose(".", x)}, many)
		want(t, dead...)
		for i := range many {
			want(t, slices.Replace(slices.Clone(dead), i, i+1, loose("x", other))...)
		}
		wantRefused(t, api.ErrArg, slices.Repeat([]part{loose("x", x)}, many)...)
		wantRefused(t, api.ErrArg, slices.Concat([]part{loose("x", x)}, dead, []part{loose("x", other)})...)
	}
}

// P11.2: one segment twice: it is merged, if nobody lives in both, and Left tells the cards of both.
func TestMergeItself(t *testing.T) {
	l := some("i", 5)
	for _, lives := range texts(5) {
		turned := strings.Map(func(r rune) rune { return 'x' + '.' - r }, lives)
		want(t, loose(lives, l...), loose(turned, l...))
		want(t, loose(lives, l...), loose(lives, l...))
		want(t, loose(lives, l...), ranked(turned, l...))
	}
}

// faults are changes by which a segment of x (a b a), y (b) and z, that is sorted, may be no more.
func faults() map[string]func(s *api.Seg) {
	on := func(doc int, at ...int) api.Post { return api.Post{Doc: doc, At: at} }
	f := map[string]func(s *api.Seg){
		"an Id fewer":            func(s *api.Seg) { s.Ids = s.Ids[:2] },
		"a Key fewer":            func(s *api.Seg) { s.Keys = s.Keys[:2] },
		"a Lens fewer":           func(s *api.Seg) { s.Lens = s.Lens[:2] },
		"no Ids":                 func(s *api.Seg) { s.Ids = nil },
		"no Keys":                func(s *api.Seg) { s.Keys = nil },
		"no Lens":                func(s *api.Seg) { s.Lens = nil },
		"an Id more":             func(s *api.Seg) { s.Ids = append(s.Ids, "zz") },
		"a Key more":             func(s *api.Seg) { s.Keys = append(s.Keys, 9) },
		"a Lens more":            func(s *api.Seg) { s.Lens = append(s.Lens, 0) },
		"no documents":           func(s *api.Seg) { s.Ids, s.Keys, s.Lens = nil, nil, nil },
		"no Terms":               func(s *api.Seg) { s.Terms = nil },
		"a word fewer":           func(s *api.Seg) { s.Terms = s.Terms[:1] },
		"an Id twice":            func(s *api.Seg) { s.Ids[2] = "x" },
		"an empty Id":            func(s *api.Seg) { s.Ids[0] = "" },
		"a long Id":              func(s *api.Seg) { s.Ids[2] = strings.Repeat("z", 17) },
		"a Key of -1":            func(s *api.Seg) { s.Keys[0] = -1 },
		"a great Key":            func(s *api.Seg) { s.Keys[2] = 1<<30 + 1 },
		"keys that fall":         func(s *api.Seg) { s.Keys[0] = 3 },
		"ids that fall":          func(s *api.Seg) { s.Ids[0], s.Ids[1], s.Keys[1] = "y", "x", 1 },
		"words that fall":        func(s *api.Seg) { slices.Reverse(s.Terms) },
		"a word twice":           func(s *api.Seg) { s.Terms[1].T = "a" },
		"an empty word":          func(s *api.Seg) { s.Terms[0].T = "" },
		"a long word":            func(s *api.Seg) { s.Terms[1].T = strings.Repeat("b", 33) },
		"a word of no place":     func(s *api.Seg) { s.Terms = append(s.Terms, api.Term{T: "c"}) },
		"no postings":            func(s *api.Seg) { s.Terms[0].P = nil },
		"no places":              func(s *api.Seg) { s.Terms[1].P[1].At = nil },
		"a posting of no places": func(s *api.Seg) { s.Terms[1].P = append(s.Terms[1].P, on(2)) },
		"documents that fall":    func(s *api.Seg) { slices.Reverse(s.Terms[1].P) },
		"a document twice":       func(s *api.Seg) { s.Terms[0].P = []api.Post{on(0, 0), on(0, 2)} },
		"places that fall":       func(s *api.Seg) { slices.Reverse(s.Terms[0].P[0].At) },
		"a place twice":          func(s *api.Seg) { s.Terms[0].P[0].At = []int{0, 0, 2} },
		"a place of two words":   func(s *api.Seg) { s.Terms[1].P[0].At = []int{1, 2} },
		"a place of a third":     func(s *api.Seg) { s.Terms = append(s.Terms, api.Term{T: "c", P: []api.Post{on(1, 0)}}) },
		"a free place":           func(s *api.Seg) { s.Terms[0].P[0].At = []int{0} },
		"a free document":        func(s *api.Seg) { s.Terms[1].P = s.Terms[1].P[:1] },
		"a place of -1":          func(s *api.Seg) { s.Terms[0].P[0].At = []int{-1, 0, 2} },
		"a place beyond":         func(s *api.Seg) { s.Terms[1].P[1].At = []int{0, 1} },
		"a place far beyond":     func(s *api.Seg) { s.Terms[0].P[0].At = []int{0, 2, math.MaxInt} },
		"a place of the empty":   func(s *api.Seg) { s.Terms[1].P = append(s.Terms[1].P, on(2, 0)) },
		"the document 3":         func(s *api.Seg) { s.Terms[1].P = append(s.Terms[1].P, on(3, 0)) },
		"the document -1":        func(s *api.Seg) { s.Terms[0].P[0].Doc = -1 },
		"the document 64":        func(s *api.Seg) { s.Terms[1].P[1].Doc = 64 },
		"another document":       func(s *api.Seg) { s.Terms[1].P[1].Doc = 2 },
		"an Id alone":            func(s *api.Seg) { *s = api.Seg{Ids: []string{"x"}} },
		"a Key alone":            func(s *api.Seg) { *s = api.Seg{Keys: []int{0}} },
		"a Lens alone":           func(s *api.Seg) { *s = api.Seg{Lens: []int{0}} },
		"words alone":            func(s *api.Seg) { *s = api.Seg{Terms: s.Terms} },
		"an empty word alone":    func(s *api.Seg) { *s = api.Seg{Terms: make([]api.Term, 1)} },
	}
	for doc := range 3 {
		for _, by := range []int{-200, -1, 1, 121, math.MinInt, math.MaxInt - 3} {
			f["a Lens of "+strconv.Itoa(doc)+" by "+strconv.Itoa(by)] = func(s *api.Seg) { s.Lens[doc] += by }
		}
	}
	return f
}

// tooGreat are segments that may not be, as they have too much of something.
func tooGreat(t *testing.T) map[string]api.Seg {
	var docs api.Seg
	for i := range 65 {
		docs.Ids, docs.Keys, docs.Lens = append(docs.Ids, string([]byte{'i', byte(i)})), append(docs.Keys, i), append(docs.Lens, 0)
	}
	words := api.Seg{Ids: []string{"x", "y"}, Keys: []int{0, 1}, Lens: []int{120, 81}}
	for i := range 201 {
		words.Terms = append(words.Terms, api.Term{T: string([]byte{'w', byte(i)}), P: []api.Post{{Doc: i / 120, At: []int{i % 120}}}})
	}
	long := made(t, false, card("x", 1, often("a", 120)...))
	long.Lens[0], long.Terms[0].P[0].At = 121, append(long.Terms[0].P[0].At, 120)
	many := api.Seg{Ids: make([]string, 100000), Keys: make([]int, 100000), Lens: make([]int, 100000)}
	return map[string]api.Seg{"65 documents": docs, "201 words": words, "a document of 121 words": long, "100000 documents": many}
}

// wantNoneWith asks that nothing is told where a segment that may not be is alone, first, last and between others, whoever of it lives.
func wantNoneWith(t *testing.T, what string, s api.Seg) {
	t.Helper()
	a, b := made(t, true, card("a", 1, "a")), made(t, false, card("b", 0, "b"), card("c", 2))
	one, two := []bool{true}, []bool{false, true}
	dead, all := make([]bool, len(s.Ids)), slices.Repeat([]bool{true}, len(s.Ids))
	for _, alive := range [][]bool{dead, all} {
		wantNothing(t, what+" alone", []api.Seg{s}, [][]bool{alive})
		wantNothing(t, what+" first", []api.Seg{s, a, b}, [][]bool{alive, one, two})
		wantNothing(t, what+" between", []api.Seg{a, s, b}, [][]bool{one, alive, two})
		wantNothing(t, what+" last", []api.Seg{a, b, s}, [][]bool{one, two, alive})
	}
	for _, many := range []int{0, 1, 3, len(s.Keys), len(s.Lens), len(s.Ids) + 1} {
		wantNothing(t, what+" with another list", []api.Seg{a, s, b}, [][]bool{one, make([]bool, many), two})
	}
}

// P11.1, P11.2: a segment that may not be.
func TestMergeSegmentThatMayNotBe(t *testing.T) {
	for what, fault := range faults() {
		s := made(t, true, card("x", 1, "a", "b", "a"), card("y", 2, "b"), card("z", 2))
		fault(&s)
		if seg.May(s) {
			t.Errorf("%s: it may be", what)
		}
		wantNoneWith(t, what, s)
	}
	for what, s := range tooGreat(t) {
		wantNoneWith(t, what, s)
	}
}

// P11.1, P11.2: fewer and more lists than segments.
func TestMergeListsTooFewOrMany(t *testing.T) {
	a, b, c := three()
	l, lives := of(t, []part{loose("xxx", a...), loose("x", b...), loose("x.", c...)})
	for segs := range 4 {
		for lists := range 4 {
			if segs != lists {
				wantNothing(t, strconv.Itoa(segs)+" segments, "+strconv.Itoa(lists)+" lists", l[:segs], lives[:lists])
			}
		}
	}
	wantNothing(t, "one list more", l, append(slices.Clone(lives), nil))
	wantNothing(t, "no lists", l, nil)
	wantNothing(t, "no segments", nil, lives)
	wantNothing(t, "an empty list alone", nil, [][]bool{nil})
	wantNothing(t, "an empty segment alone", []api.Seg{{}}, nil)
	wantNothing(t, "two empty segments, one list", make([]api.Seg, 2), make([][]bool, 1))
	wantNothing(t, "the lists of one joined", l[:2], [][]bool{{true, true, true, true}})
}

// P11.1, P11.2: a list that is shorter or longer than its segment has documents, also where all together have as many.
func TestMergeListsTooShortOrLong(t *testing.T) {
	a, b, c := three()
	l, lives := of(t, []part{loose("xxx", a...), loose("x", b...), loose("x.", c...)})
	for i := range l {
		for many := range 70 {
			for _, is := range []bool{false, true} {
				other := copiedLives(lives)
				if other[i] = slices.Repeat([]bool{is}, many); many == len(lives[i]) {
					continue
				}
				wantNothing(t, "the list "+strconv.Itoa(i)+" of "+strconv.Itoa(many), l, other)
			}
		}
	}
	wantNothing(t, "lists in another order", l, [][]bool{lives[1], lives[0], lives[2]})
	wantNothing(t, "one shorter, one longer", l, [][]bool{{true, true}, {true, true}, {true, true}})
	wantNothing(t, "a nil list", l, [][]bool{nil, lives[1], lives[2]})
	wantNothing(t, "a list of an empty segment", []api.Seg{{}}, [][]bool{{false}})
	wantNothing(t, "a long list", l[1:2], [][]bool{make([]bool, 100000)})
	whole := made(t, false, bare("i", 64)...)
	for _, many := range []int{0, 1, 63, 65, 128} {
		wantNothing(t, strconv.Itoa(many)+" for 64", []api.Seg{whole}, [][]bool{make([]bool, many)})
	}
}

// P11.2, R2: where several errors are due ErrArg is told ahead of ErrLimit, whatever stands first.
func TestMergeFirstError(t *testing.T) {
	all := strings.Repeat("x", 64)
	full, x := loose(all, bare("i", 64)...), loose("x", bare("j", 1)...)
	words := []part{loose("x", card("a", 4, numbered(0, 120)...)), loose("x", card("b", 3, numbered(120, 120)...))}
	wantRefused(t, api.ErrArg, full, x, x)
	wantRefused(t, api.ErrArg, x, x, full)
	wantRefused(t, api.ErrArg, full, full)
	wantRefused(t, api.ErrArg, full, x, ranked("."+all[2:]+"x", bare("i", 64)...))
	wantRefused(t, api.ErrArg, append(words, words[0])...)
	wantRefused(t, api.ErrArg, append(words, x, x)...)
	wantRefused(t, api.ErrLimit, append(words, full, x)...)
	for _, parts := range [][]part{{full, x}, words, append(words, full, x), {full, full}} {
		l, lives := of(t, parts)
		wantNothing(t, "a list fewer, and a limit", l, lives[1:])
		wantNothing(t, "a list more, and a limit", l, append(slices.Clone(lives), nil))
		wantNothing(t, "a list that is shorter, and a limit", l, append(slices.Clone(lives[:1]), slices.Repeat([][]bool{nil}, len(l)-1)...))
		for what, fault := range faults() {
			s := made(t, true, card("x", 1, "a", "b", "a"), card("y", 2, "b"), card("z", 2))
			fault(&s)
			dead := make([]bool, len(s.Ids))
			wantNothing(t, what+", and a limit", append(slices.Clone(l), s), append(slices.Clone(lives), dead))
			wantNothing(t, what+", ahead of a limit", append([]api.Seg{s}, l...), append([][]bool{dead}, lives...))
		}
	}
}

// dealt are parts as they happen, the same ones each time: few ids, so that some are there twice, and who of such lives is chance.
func dealt(dice *rand.Rand, segs, docs int) []part {
	text := func(most int, of string) string {
		b := make([]byte, 1+dice.Intn(most))
		for i := range b {
			b[i] = of[dice.Intn(len(of))]
		}
		return string(b)
	}
	var parts []part
	for range dice.Intn(segs + 1) {
		p := part{sorted: dice.Intn(2) == 0}
		for range dice.Intn(docs + 1) {
			c := card(text(2, "ab\x00\xff"), dice.Intn(4))
			if slices.ContainsFunc(p.cards, func(d api.Card) bool { return d.Id == c.Id }) {
				continue
			}
			for range dice.Intn(3) * dice.Intn(8) {
				c.W = append(c.W, text(3, "ab"))
			}
			p.cards, p.lives = append(p.cards, c), p.lives+"xx."[dice.Intn(3):][:1]
		}
		parts = append(parts, p)
	}
	return parts
}

// P11.1, P11.2: parts as they happen are merged as they must be, or refused.
func TestMergeDealt(t *testing.T) {
	dice := rand.New(rand.NewSource(11))
	seen := map[api.Errno]int{}
	for i := range 4000 {
		parts := dealt(dice, 1+i%6, 6)
		seen[refused(parts)]++
		want(t, parts...)
	}
	if seen[api.OK] < 500 || seen[api.ErrArg] < 500 {
		t.Errorf("%v", seen)
	}
}

// P11.2: parts as they happen, of about as many documents and unlike words as there may be.
func TestMergeCrowded(t *testing.T) {
	dice := rand.New(rand.NewSource(64))
	seen := map[api.Errno]int{}
	for range 300 {
		many, unlike := 0, 150+dice.Intn(100)
		var parts []part
		for range 2 + dice.Intn(5) {
			p := part{sorted: dice.Intn(2) == 0}
			for range 3 + dice.Intn(22) {
				w := numbered(dice.Intn(unlike-20), dice.Intn(20))
				p.cards, p.lives = append(p.cards, card("i"+strconv.Itoa(many*37%101), dice.Intn(9), w...)), p.lives+"xxxxxxx."[dice.Intn(8):][:1]
				many = (many + 1) % 101
			}
			parts = append(parts, p)
		}
		seen[refused(parts)]++
		want(t, parts...)
	}
	if seen[api.OK] < 50 || seen[api.ErrLimit] < 50 {
		t.Errorf("%v", seen)
	}
}

// P11.3: of one segment that is all alive, as sorted as it is to be, comes itself, and each document stays where it was.
func TestMergeComesItself(t *testing.T) {
	a, b, _ := three()
	long := []api.Card{card("x", 2, often("a", 120)...), card("y", 1, numbered(0, 120)...), card("z", 0)}
	for _, l := range [][]api.Card{nil, b, a, some("i", 5), some("i", 64), bare("i", 64), long} {
		for _, sorted := range []bool{false, true} {
			s := made(t, sorted, l...)
			alive := slices.Repeat([]bool{true}, len(l))
			got, tables, e := merge.Merge([]api.Seg{s}, [][]bool{alive}, sorted)
			if e != api.OK || !seg.Same(got, s) || len(tables) != 1 {
				t.Errorf("of %d cards, %v: %d, %d tables", len(l), sorted, e, len(tables))
				continue
			}
			for doc, place := range tables[0] {
				if doc != place {
					t.Errorf("of %d cards, %v: %d gets %d", len(l), sorted, doc, place)
				}
			}
			back, _, e := merge.Merge([]api.Seg{made(t, !sorted, l...)}, [][]bool{alive}, sorted)
			if e != api.OK || back.Sorted != sorted || sorted && !seg.Same(back, s) {
				t.Errorf("of %d cards, %v: another one than is built", len(l), sorted)
			}
		}
	}
}

// then is what tables behind one another tell.
func then(first [][]int, second []int) [][]int {
	var out [][]int
	for _, table := range first {
		out = append(out, remap.Then(table, second))
	}
	return out
}

// wantSteps asks that segments from from to to are merged first, and what is made of them with the others, as all are at once.
func wantSteps(t *testing.T, parts []part, from, to int, between, sorted bool) bool {
	t.Helper()
	l, lives := of(t, parts)
	s, first, e := merge.Merge(l[from:to], lives[from:to], between)
	if e != api.OK {
		return false
	}
	alive := slices.Repeat([]bool{true}, len(s.Ids))
	some := slices.Concat(l[:from], []api.Seg{s}, l[to:])
	u, second, e := merge.Merge(some, slices.Concat(lives[:from], [][]bool{alive}, lives[to:]), sorted)
	whole, tables, wholeE := merge.Merge(l, lives, sorted)
	if e != wholeE || !seg.Same(u, whole) {
		t.Errorf("%s, of which %d to %d first: %d, %s; want %d, %s", name(parts), from, to, e, told(seg.Cards(u)), wholeE, told(seg.Cards(whole)))
	}
	if e != api.OK || wholeE != api.OK {
		return false
	}
	if got := slices.Concat(second[:from], then(first, second[from]), second[from+1:]); !sameTables(got, tables) {
		t.Errorf("%s, of which %d to %d first: %v; want %v", name(parts), from, to, got, tables)
	}
	return true
}

// P11.3: some merged, and then with others, are what all merged at once are; sorted it is no matter whether those between were.
func TestMergeBySteps(t *testing.T) {
	dice := rand.New(rand.NewSource(113))
	a, b, c := three()
	many := 0
	lists := [][]part{{loose("xxx", a...), loose("x", b...), ranked("xx", c...)}, {ranked("x.x", a...), ranked(".", b...), loose("x.", c...)}}
	for range 600 {
		lists = append(lists, dealt(dice, 4, 3))
	}
	for _, parts := range lists {
		for to := range len(parts) + 1 {
			for from := range to + 1 {
				for _, sorts := range [][2]bool{{false, false}, {false, true}, {true, true}} {
					if wantSteps(t, parts, from, to, sorts[0], sorts[1]) {
						many++
					}
				}
			}
		}
	}
	if many < 2000 {
		t.Errorf("only %d were merged", many)
	}
}

// perms are all orders of as many as n says.
func perms(n int) [][]int {
	if n == 0 {
		return [][]int{nil}
	}
	var out [][]int
	for _, p := range perms(n - 1) {
		for at := range n {
			out = append(out, slices.Insert(slices.Clone(p), at, n-1))
		}
	}
	return out
}

// P11.3: sorted the order of the segments does not matter: the same is made, and each segment has its own table.
func TestMergeInAnyOrder(t *testing.T) {
	dice := rand.New(rand.NewSource(311))
	same := []part{loose("xx", card("b", 1), card("d", 1, "a")), ranked("x.", card("a", 1, "b"), card("e", 1)), loose("x", card("c", 1, "a")), ranked("xx", card("aa", 1), card("a\x00", 1))}
	lists := [][]part{same}
	for range 150 {
		lists = append(lists, dealt(dice, 4, 3))
	}
	for _, parts := range lists {
		l, lives := of(t, parts)
		s, tables, e := merge.Merge(l, lives, true)
		for _, p := range perms(len(l)) {
			var segs []api.Seg
			var alive [][]bool
			var want [][]int
			for _, i := range p {
				segs, alive = append(segs, l[i]), append(alive, lives[i])
				if e == api.OK {
					want = append(want, tables[i])
				}
			}
			u, got, ue := merge.Merge(segs, alive, true)
			if ue != e || !seg.Same(u, s) || !sameTables(got, want) {
				t.Errorf("%s in the order %v: %d, %s, %v", name(parts), p, ue, told(seg.Cards(u)), got)
			}
		}
	}
}

// P11.3: not sorted the segments stand as they are handed over.
func TestMergeAsHandedOver(t *testing.T) {
	parts := []part{loose("xx", card("b", 3), card("d", 1, "a")), ranked(".x", card("a", 2, "b"), card("e", 2)), loose("x", card("c", 0, "a"))}
	for _, p := range perms(3) {
		var turned []part
		for _, i := range p {
			turned = append(turned, parts[i])
		}
		wantOne(t, turned, false)
	}
}

// spoil changes all that a segment has, to the last place.
func spoil(s api.Seg) {
	for i := range s.Ids {
		s.Ids[i], s.Keys[i], s.Lens[i] = "spoilt", 77, 77
	}
	for i := range s.Terms {
		for k, p := range s.Terms[i].P {
			for n := range p.At {
				p.At[n] = 77
			}
			s.Terms[i].P[k] = api.Post{Doc: 77}
		}
		s.Terms[i] = api.Term{T: "spoilt"}
	}
}

// spoilLists changes all that lists have.
func spoilLists[T any](l [][]T, by T) {
	for i := range l {
		for k := range l[i] {
			l[i][k] = by
		}
		l[i] = nil
	}
}

func spoilCards(l []api.Card) {
	for i := range l {
		for k := range l[i].W {
			l[i].W[k] = "spoilt"
		}
		l[i] = api.Card{Id: "spoilt"}
	}
}

// ordinary are parts that may be merged.
func ordinary() [][]part {
	a, b, c := three()
	return [][]part{
		{loose("xxx", a...)}, {ranked("xxx", a...)}, {ranked("x.x", a...), loose("x", b...)}, {loose("xxx", a...), ranked("x", b...), loose("x.", c...)},
		{ranked(strings.Repeat("x", 32), some("i", 32)...), loose("", bare("j", 0)...), loose(strings.Repeat("x", 32), some("k", 32)...)}, {loose("...", a...), loose(".", b...)},
	}
}

// R3: what is answered is new: later changes of what was handed in change nothing of it, nor the other way round.
func TestMergeIsNew(t *testing.T) {
	for _, parts := range ordinary() {
		for _, sorted := range []bool{false, true} {
			l, lives := of(t, parts)
			was, wasLives := copiedAll(l), copiedLives(lives)
			s, tables, _ := merge.Merge(l, lives, sorted)
			left := merge.Left(l, lives)
			for i := range l {
				spoil(l[i])
				l[i] = api.Seg{}
			}
			spoilLists(lives, false)
			if !seg.Same(s, made(t, sorted, lefts(parts)...)) || !sameTables(tables, placed(parts, sorted)) || !sameCards(left, lefts(parts)) {
				t.Errorf("what is made of %s hangs on it", name(parts))
			}
			l, lives = copiedAll(was), copiedLives(wasLives)
			s, tables, _ = merge.Merge(l, lives, sorted)
			spoil(s)
			spoilLists(tables, 77)
			spoilCards(merge.Left(l, lives))
			if !sameSegs(l, was) || !sameLives(lives, wasLives) {
				t.Errorf("%s hangs on what is made of it", name(parts))
			}
		}
	}
}

// R3: no two lists of an answer share memory: what is put behind one is not to be seen in another.
func TestListsAreApart(t *testing.T) {
	for _, parts := range ordinary() {
		for _, sorted := range []bool{false, true} {
			l, lives := of(t, parts)
			s, tables, _ := merge.Merge(l, lives, sorted)
			left := merge.Left(l, lives)
			for i := range tables {
				_ = append(tables[i], 77)
			}
			for i := range left {
				_ = append(left[i].W, "spoilt")
			}
			for i := range s.Terms {
				for k := range s.Terms[i].P {
					_ = append(s.Terms[i].P[k].At, 77)
				}
				_ = append(s.Terms[i].P, api.Post{Doc: 77})
			}
			_, _, _ = append(s.Ids, "spoilt"), append(s.Keys, 77), append(s.Lens, 77)
			if !seg.Same(s, made(t, sorted, lefts(parts)...)) || !sameTables(tables, placed(parts, sorted)) || !sameCards(left, lefts(parts)) {
				t.Errorf("lists of what is made of %s are not apart", name(parts))
			}
			for i := range tables {
				for k := range tables[i] {
					tables[i][k] = 77
				}
				if i+1 < len(tables) && !sameTables(tables[i+1:], placed(parts, sorted)[i+1:]) {
					t.Errorf("tables of %s are not apart", name(parts))
				}
			}
		}
	}
}

// R3: what lies behind a list's length is neither read nor changed.
func TestBehindTheLength(t *testing.T) {
	a, b, _ := three()
	parts := []part{loose("x.x", a...), loose("x", b...)}
	short, lives := of(t, parts)
	for _, sorted := range []bool{false, true} {
		l := append(copiedAll(short), api.Seg{Ids: []string{""}}, api.Seg{Ids: []string{"behind"}})
		long := append(copiedLives(lives), []bool{true}, nil)
		long[0] = append(long[0], true, true)
		l[0].Ids, l[0].Keys, l[0].Lens = append(l[0].Ids, "x", "behind"), append(l[0].Keys, -1, -2), append(l[0].Lens, 7, 8)
		l[0].Terms = append(l[0].Terms, api.Term{T: "a"}, api.Term{T: "behind"})
		was, wasLives := copiedAll(l), copiedLives(long)
		cut := slices.Clone(l)
		cut[0].Ids, cut[0].Keys, cut[0].Lens, cut[0].Terms = l[0].Ids[:3], l[0].Keys[:3], l[0].Lens[:3], l[0].Terms[:len(short[0].Terms)]
		alive := [][]bool{long[0][:3], long[1], {true}}
		s, tables, e := merge.Merge(cut[:2], alive[:2], sorted)
		if e != api.OK || !seg.Same(s, made(t, sorted, lefts(parts)...)) || !sameTables(tables, placed(parts, sorted)) || !sameCards(merge.Left(cut[:2], alive[:2]), lefts(parts)) {
			t.Errorf("what lies behind is read: %d %v", e, tables)
		}
		if !sameSegs(l, was) || !sameLives(long, wasLives) || !seg.Same(cut[2], l[2]) || !seg.Same(cut[3], l[3]) || !slices.Equal(alive[2], []bool{true}) {
			t.Error("what lay behind is changed")
		}
	}
}

// R6: lists without elements may be nil or empty.
func TestEmptyLists(t *testing.T) {
	empty := api.Seg{Ids: []string{}, Keys: []int{}, Lens: []int{}, Terms: []api.Term{}}
	none := []api.Card{{Id: "x", W: []string{}}, {Id: "y"}}
	for _, l := range [][]api.Seg{{{}}, {empty}, {{Sorted: true}}, {empty, {}, {Sorted: true}}} {
		for _, list := range [][]bool{nil, {}} {
			for _, sorted := range []bool{false, true} {
				s, tables, e := merge.Merge(l, slices.Repeat([][]bool{list}, len(l)), sorted)
				if e != api.OK || !seg.Same(s, api.Seg{Sorted: sorted}) || !sameTables(tables, make([][]int, len(l))) {
					t.Errorf("%d empty segments, %v: %d %v %v", len(l), sorted, e, s, tables)
				}
			}
		}
	}
	want(t, loose("xx", none...), ranked(".", card("z", 0)))
}

// R1: calls of very many segments end: none is too many, if few documents live.
func TestMergeOfVeryMany(t *testing.T) {
	empty := make([]api.Seg, 20000)
	s, tables, e := merge.Merge(empty, make([][]bool, len(empty)), true)
	if e != api.OK || len(s.Ids) != 0 || len(tables) != len(empty) {
		t.Errorf("empty ones: %d", e)
	}
	wantNothing(t, "very many, and the last one may not be", append(slices.Clone(empty), api.Seg{Keys: []int{1}}), make([][]bool, len(empty)+1))
	one, lives := made(t, true, card("x", 1, "a")), slices.Repeat([][]bool{{false}}, 5000)
	lives[4000] = []bool{true}
	s, tables, e = merge.Merge(slices.Repeat([]api.Seg{one}, 5000), lives, true)
	if e != api.OK || !seg.Same(s, one) || len(tables) != 5000 || tables[4000][0] != 0 || tables[4001][0] != -1 {
		t.Errorf("one of very many: %d", e)
	}
	full := made(t, false, some("i", 64)...)
	all := slices.Repeat([][]bool{slices.Repeat([]bool{true}, 64)}, 100)
	wantError(t, "very many of the same ids", slices.Repeat([]api.Seg{full}, 100), all, api.ErrArg)
	if got := merge.Left(slices.Repeat([]api.Seg{full}, 100), all); !sameCards(got, slices.Repeat(some("i", 64), 100)) {
		t.Errorf("Left: %d", len(got))
	}
	var parts []part
	for i := range 40 {
		parts = append(parts, loose(strings.Repeat("x", 64), bare(strconv.Itoa(i)+"/", 64)...))
	}
	wantRefused(t, api.ErrLimit, parts...)
}

// R5: asked again the same is told.
func TestAgain(t *testing.T) {
	for _, parts := range ordinary() {
		l, lives := of(t, parts)
		first, tables, _ := merge.Merge(l, lives, true)
		for range 5 {
			merge.Merge(l, nil, true)
			merge.Merge(l[:1], lives[:1], false)
			if s, again, e := merge.Merge(l, lives, true); e != api.OK || !seg.Same(s, first) || !sameTables(again, tables) {
				t.Errorf("%s: another segment", name(parts))
			}
		}
	}
}
