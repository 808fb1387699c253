package shelf_test

import (
	"bytes"
	"math"
	"math/rand"
	"slices"
	"sort"
	"strconv"
	"strings"
	"testing"

	"catchword/api"
	"catchword/seg"
	"catchword/shelf"
)

func card(id string, key int, w ...string) api.Card { return api.Card{Id: id, Key: key, W: w} }

// numbered are unlike words, as many as many says, from the first number on.
func numbered(first, many int) []string {
	var l []string
	for i := range many {
		l = append(l, "w"+strconv.Itoa(first+i))
	}
	return l
}

// often is a word as often as many says.
func often(word string, many int) []string { return slices.Repeat([]string{word}, many) }

// tag is the Id of a number, each above those of lesser numbers, if it is below 10000.
func tag(number int) string { return "i" + strconv.Itoa(10000 + number)[1:] }

// plain is a shelf of so many cards, each with a word of its own and one of all of them, or without words; between any two there is room for others.
func plain(many int) []api.Card {
	var l []api.Card
	for i := range many {
		c := card(tag(i), i*53%19)
		if i%7 != 3 {
			c.W = []string{"all", "w" + strconv.Itoa(i)}
		}
		l = append(l, c)
	}
	return l
}

// full is a shelf of so many cards, each of as many words as it may have, all of them unlike.
func full(many int) []api.Card {
	l := plain(many)
	for i := range l {
		l[i].W = numbered(i*120, 120)
	}
	return l
}

// edgeIds are Ids that a card may just have: of one byte and of sixteen, of any bytes, that differ in one byte only, of which one begins another.
func edgeIds() []string {
	i := strings.Repeat("i", 14)
	return []string{
		"\x00", "\x00\x00", strings.Repeat("\x00", 16), " ", "10", "9", "A", "Z", "a", "a\x00", "a\x00\x00", "a\x01", "a\xff", "aa", "aab", "ab", "ac", "az", "b", "ba", "~", "\x7f", "\x80", "\xc3", "é", "ü",
		i, i + "h", i + "i", i + "j", i + "ih", i + "ii", i + "ij", i + "i\x00", i + "i\xff", strings.Repeat("z", 16), "\xfe\xff", "\xff", "\xff\x00", "\xff\xff", strings.Repeat("\xff", 16),
	}
}

// byId are cards, each above the one ahead by its Id, byte by byte.
func byId(l []api.Card) []api.Card {
	l = slices.Clone(l)
	sort.Slice(l, func(i, k int) bool { return bytes.Compare([]byte(l[i].Id), []byte(l[k].Id)) < 0 })
	return l
}

// edgeCards are cards of all edge Ids, with some keys and words.
func edgeCards() []api.Card {
	var l []api.Card
	for i, id := range edgeIds() {
		l = append(l, card(id, i*i%5, numbered(i, i%4)...))
	}
	return byId(l)
}

// edges are cards of the Id m that may just be.
func edges() []api.Card {
	return []api.Card{
		card("m", 0), card("m", 1<<30), card("m", 1<<30-1, "a"), {Id: "m", W: []string{}}, card("m", 3, "a"), card("m", 3, strings.Repeat("a", 32)), card("m", 3, "\x00", "\xff", "é", " ", "a"),
		card("m", 3, often("a", 120)...), card("m", 3, numbered(0, 120)...), card("m", 3, often(strings.Repeat("\xff", 32), 119)...), card("m", 3, append(often("a", 119), strings.Repeat("b", 32))...),
	}
}

// shelves are some that may be.
func shelves() [][]api.Card {
	out := [][]api.Card{nil, {}, {card("x", 5)}, {card("a", 2, "w"), card("b", 1, "w", "v")}, edgeCards(), full(1), full(2), full(64), full(65)}
	for _, n := range []int{1, 2, 3, 7, 63, 64, 65, 66, 100, 199, 200, 201} {
		out = append(out, plain(n))
	}
	for _, c := range edges() {
		out = append(out, []api.Card{c}, []api.Card{card("a", 1), c, card("z", 1)})
	}
	return out
}

// greatShelves are those about as great as there may be.
func greatShelves() [][]api.Card {
	return [][]api.Card{plain(1098), plain(1099), plain(1100), full(1100)}
}

// flaws are changes after which a card may not be, though its Id is as far above and below others as it was.
func flaws() map[string]func(c *api.Card) {
	return map[string]func(c *api.Card){
		"an Id of 17 bytes":           func(c *api.Card) { c.Id += strings.Repeat("\x00", 17)[len(c.Id):] },
		"an Id of 300 bytes":          func(c *api.Card) { c.Id += strings.Repeat("x", 300) },
		"a Key of -1":                 func(c *api.Card) { c.Key = -1 },
		"a Key of 2^30 + 1":           func(c *api.Card) { c.Key = 1<<30 + 1 },
		"the least Key":               func(c *api.Card) { c.Key = math.MinInt },
		"the greatest Key":            func(c *api.Card) { c.Key = math.MaxInt },
		"a Key of 2^32":               func(c *api.Card) { c.Key = 1 << 32 },
		"121 words":                   func(c *api.Card) { c.W = often("a", 121) },
		"121 unlike words":            func(c *api.Card) { c.W = numbered(0, 121) },
		"201 unlike words":            func(c *api.Card) { c.W = numbered(0, 201) },
		"5000 words":                  func(c *api.Card) { c.W = often("a", 5000) },
		"an empty word":               func(c *api.Card) { c.W = []string{""} },
		"an empty word at the end":    func(c *api.Card) { c.W = append(often("a", 119), "") },
		"an empty word between":       func(c *api.Card) { c.W = []string{"a", "", "b"} },
		"a word of 33 bytes":          func(c *api.Card) { c.W = []string{strings.Repeat("a", 33)} },
		"a long word at the end":      func(c *api.Card) { c.W = append(often("a", 119), strings.Repeat("a", 33)) },
		"a word of 17 signs of two":   func(c *api.Card) { c.W = []string{strings.Repeat("é", 17)} },
		"a word of very many bytes":   func(c *api.Card) { c.W = []string{strings.Repeat("a", 1<<16)} },
		"a Key of -1 and empty words": func(c *api.Card) { c.Key, c.W = -1, make([]string, 121) },
	}
}

// flawed is a card with a flaw.
func flawed(c api.Card, flaw func(c *api.Card)) api.Card {
	flaw(&c)
	return c
}

// badCards are cards that may not be.
func badCards() []api.Card {
	out := []api.Card{{}, card("", 0), card("", 5, "a"), card("", -1)}
	for _, flaw := range flaws() {
		out = append(out, flawed(card("m", 1, "w"), flaw), flawed(card("", 1), flaw))
	}
	return out
}

// From here to byKeyOf the chapter's words are worked out a second time.

func mayCard(c api.Card) bool {
	for _, w := range c.W {
		if len(w) == 0 || len(w) > 32 {
			return false
		}
	}
	return len(c.Id) != 0 && len(c.Id) <= 16 && c.Key >= 0 && c.Key <= 1073741824 && len(c.W) <= 120
}

func mayOf(l []api.Card) bool {
	for i, c := range l {
		if !mayCard(c) || i > 0 && bytes.Compare([]byte(l[i-1].Id), []byte(c.Id)) >= 0 {
			return false
		}
	}
	return len(l) <= 1100
}

func findOf(l []api.Card, id string) int {
	place := -1
	for i, c := range l {
		if c.Id == id && mayOf(l) {
			place = i
		}
	}
	return place
}

func putOf(l []api.Card, c api.Card) ([]api.Card, api.Errno) {
	if !mayOf(l) || !mayCard(c) {
		return l, api.ErrArg
	}
	out, _ := delOf(l, c.Id)
	if len(out) >= 1100 {
		return l, api.ErrFull
	}
	return byId(append(slices.Clone(out), c)), api.OK
}

func delOf(l []api.Card, id string) ([]api.Card, bool) {
	var out []api.Card
	for _, c := range l {
		if c.Id != id {
			out = append(out, c)
		}
	}
	if !mayOf(l) || len(out) == len(l) {
		return l, false
	}
	return out, true
}

func byKeyOf(l []api.Card) []api.Card {
	if !mayOf(l) {
		return nil
	}
	l = byId(l)
	sort.SliceStable(l, func(i, k int) bool { return l[i].Key < l[k].Key })
	return l
}

// same tells whether all parts of cards are the same, held against each other as rows of texts.
func same(a, b []api.Card) bool { return slices.Equal(row(a), row(b)) }

// row are all parts of cards, with how many there are of each, one behind the other.
func row(l []api.Card) []string {
	out := []string{strconv.Itoa(len(l))}
	for _, c := range l {
		out = append(out, c.Id, strconv.Itoa(c.Key), strconv.Itoa(len(c.W)))
		out = append(out, c.W...)
	}
	return out
}

// told are cards as a text that an error may tell.
func told(l ...api.Card) string {
	text := strings.Join(row(l), " ")
	if len(text) > 300 {
		return strconv.Quote(text[:300]) + ".."
	}
	return strconv.Quote(text)
}

// copied are the same cards, of which nothing is shared.
func copied(l []api.Card) []api.Card {
	var out []api.Card
	for _, c := range l {
		out = append(out, card(c.Id, c.Key, append([]string(nil), c.W...)...))
	}
	return out
}

// behind is a card, and within a word, that lies behind lists: it would be in order there.
const behind = "\xff\xff\xff\xff\xff\xff\xff\xff\xff\xff\xff\xff\xff\xff\xff\xff"

// roomyCard is the same card in new memory, of which a word lies behind the words.
func roomyCard(c api.Card) api.Card {
	many := len(c.W)
	c.W = append(append(make([]string, 0, many+2), c.W...), behind, behind)[:many]
	return c
}

// roomy are the same cards in new memory, behind which two more lie, and words behind those of each.
func roomy(l []api.Card) []api.Card {
	out := make([]api.Card, 0, len(l)+2)
	for _, c := range l {
		out = append(out, roomyCard(c))
	}
	return append(out, roomyCard(card(behind, 7)), roomyCard(card(behind+behind, 7)))[:len(l)]
}

// whole tells whether roomy cards are still what l is, and so is what lies behind them.
func whole(in, l []api.Card) bool {
	for _, c := range in[:len(in)+2] {
		if more := c.W[:len(c.W)+2]; more[len(c.W)] != behind || more[len(c.W)+1] != behind {
			return false
		}
	}
	rest := in[len(in) : len(in)+2]
	return same(in, l) && same(rest, []api.Card{card(behind, 7), card(behind+behind, 7)})
}

// spoil changes all that cards have, to the end of their memory; it tells no, if two lists of them share some.
func spoil(l []api.Card) bool {
	for i, c := range l {
		for k := range c.W[:cap(c.W)] {
			c.W[:cap(c.W)][k] = strconv.Itoa(i)
		}
	}
	for i, c := range l {
		for _, w := range c.W[:cap(c.W)] {
			if w != strconv.Itoa(i) {
				return false
			}
		}
	}
	l = l[:cap(l)]
	for i := range l {
		l[i] = card("spoilt", -7, "spoilt")
	}
	return true
}

// wantOwn asks that answered cards are apart from one another and from what was handed in, which is as it was; they are spoilt then.
func wantOwn(t *testing.T, what string, got, in, l []api.Card) {
	t.Helper()
	if !whole(in, l) {
		t.Errorf("%s, %s: changed", what, told(l...))
	}
	if !spoil(got) {
		t.Errorf("%s, %s: two lists of the answer share memory", what, told(l...))
	}
	if !whole(in, l) {
		t.Errorf("%s, %s: the answer shares memory", what, told(l...))
	}
}

// wantPut asks for what is worked out a second time, and tells the error.
func wantPut(t *testing.T, l []api.Card, c api.Card) api.Errno {
	t.Helper()
	in, one := roomy(l), roomy([]api.Card{c})
	want, wantE := putOf(l, c)
	got, e := shelf.Put(in, one[0])
	if e != wantE || !same(got, want) {
		t.Errorf("Put(%s; %s): %d, %s; want %d, %s", told(l...), told(c), e, told(got...), wantE, told(want...))
	}
	if mayOf(l) && !shelf.May(got) {
		t.Errorf("Put(%s; %s): %s may not be", told(l...), told(c), told(got...))
	}
	wantOwn(t, "Put", got, in, l)
	if !whole(one, []api.Card{c}) {
		t.Errorf("Put(%s; %s): the card is changed, or shared", told(l...), told(c))
	}
	return e
}

// wantDel asks for what is worked out a second time, and tells whether there was one.
func wantDel(t *testing.T, l []api.Card, id string) bool {
	t.Helper()
	in := roomy(l)
	want, wantIs := delOf(l, id)
	got, is := shelf.Del(in, id)
	if is != wantIs || !same(got, want) {
		t.Errorf("Del(%s; %q): %t, %s; want %t, %s", told(l...), id, is, told(got...), wantIs, told(want...))
	}
	if mayOf(l) && !shelf.May(got) {
		t.Errorf("Del(%s; %q): %s may not be", told(l...), id, told(got...))
	}
	wantOwn(t, "Del", got, in, l)
	return is
}

// wantFind asks for what is worked out a second time.
func wantFind(t *testing.T, l []api.Card, id string) {
	t.Helper()
	in := roomy(l)
	if got, want := shelf.Find(in, id), findOf(l, id); got != want {
		t.Errorf("Find(%s; %q): %d; want %d", told(l...), id, got, want)
	}
	if !whole(in, l) {
		t.Errorf("Find(%s; %q): changed", told(l...), id)
	}
}

// wantByKey asks for what is worked out a second time, and for the order itself.
func wantByKey(t *testing.T, l []api.Card) {
	t.Helper()
	in := roomy(l)
	got, want := shelf.ByKey(in), byKeyOf(l)
	if !same(got, want) {
		t.Errorf("ByKey(%s): %s; want %s", told(l...), told(got...), told(want...))
	}
	for i := 1; i < len(got); i++ {
		if !seg.Before(got[i-1], got[i]) {
			t.Errorf("ByKey(%s): %s is not before %s", told(l...), told(got[i-1]), told(got[i]))
		}
	}
	if mayOf(l) && !same(byId(got), l) {
		t.Errorf("ByKey(%s): other cards, %s", told(l...), told(got...))
	}
	wantOwn(t, "ByKey", got, in, l)
}

// wantMay asks for what is worked out a second time.
func wantMay(t *testing.T, l []api.Card) {
	t.Helper()
	in := roomy(l)
	if got, want := shelf.May(in), mayOf(l); got != want {
		t.Errorf("May(%s), %d cards: %t; want %t", told(l...), len(l), got, want)
	}
	if !whole(in, l) {
		t.Errorf("May(%s): changed", told(l...))
	}
}

// wantAll asks of a list all that there is to ask, with some ids and some cards.
func wantAll(t *testing.T, l []api.Card, ids []string, cards []api.Card) {
	t.Helper()
	wantMay(t, l)
	wantByKey(t, l)
	for _, id := range ids {
		wantFind(t, l, id)
		wantDel(t, l, id)
	}
	for _, c := range cards {
		wantPut(t, l, c)
	}
	if in := roomy(l); !shelf.Same(in, l) || !shelf.Same(l, in) || !whole(in, l) {
		t.Errorf("Same(%s) with itself", told(l...))
	}
}

// wantNone asks that a list is no shelf, and that nothing is told of it, or it itself.
func wantNone(t *testing.T, what string, l []api.Card) {
	t.Helper()
	if mayOf(l) || shelf.May(l) {
		t.Errorf("%s: it may not be: %s", what, told(l...))
	}
	if got := shelf.ByKey(roomy(l)); len(got) != 0 {
		t.Errorf("%s: ByKey: %s", what, told(got...))
	}
	ids := []string{"", "m", "zz"}
	for _, at := range []int{0, len(l) / 2, len(l) - 1} {
		ids = append(ids, l[at].Id)
	}
	for _, id := range ids {
		if at := shelf.Find(l, id); at != -1 {
			t.Errorf("%s: Find of %q: %d", what, id, at)
		}
		if wantDel(t, l, id) {
			t.Errorf("%s: Del of %q", what, id)
		}
		if e := wantPut(t, l, card(id, 1, "w")); e != api.ErrArg {
			t.Errorf("%s: Put of %q: %d", what, id, e)
		}
	}
	if e := wantPut(t, l, card("m", -1)); e != api.ErrArg {
		t.Errorf("%s: Put of what may not be: %d", what, e)
	}
}

// The chapter's example.
func TestExample(t *testing.T) {
	l, e := shelf.Put(nil, card("b", 1, "one"))
	if e != api.OK || !same(l, []api.Card{card("b", 1, "one")}) {
		t.Fatalf("b: %d, %s", e, told(l...))
	}
	l, e = shelf.Put(l, card("a", 2, "two"))
	if e != api.OK || !same(l, []api.Card{card("a", 2, "two"), card("b", 1, "one")}) {
		t.Fatalf("a: %d, %s", e, told(l...))
	}
	l, e = shelf.Put(l, card("b", 3, "another", "one"))
	if e != api.OK || !same(l, []api.Card{card("a", 2, "two"), card("b", 3, "another", "one")}) {
		t.Fatalf("another b: %d, %s", e, told(l...))
	}
}

// P13.1: shelves that may be.
func TestMay(t *testing.T) {
	for _, l := range slices.Concat(shelves(), greatShelves()) {
		if !mayOf(l) || !shelf.May(l) {
			t.Errorf("%d cards, %s", len(l), told(l...))
		}
	}
}

// P13.1: as many cards as there may be, and one more.
func TestMayOfMany(t *testing.T) {
	for _, n := range []int{0, 1, 2, 63, 64, 65, 66, 127, 128, 200, 201, 255, 256, 257, 1023, 1024, 1025, 1098, 1099, 1100, 1101, 1102, 1164, 2200, 5000} {
		if is := shelf.May(plain(n)); is != (n <= 1100) {
			t.Errorf("%d cards: %t", n, is)
		}
		bare := plain(n)
		for i := range bare {
			bare[i].W = nil
		}
		if is := shelf.May(bare); is != (n <= 1100) {
			t.Errorf("%d cards without words: %t", n, is)
		}
	}
}

// P13.1: any two Ids stand in their order, byte by byte, or there is no shelf, whatever the keys and words are.
func TestMayOfTwoIds(t *testing.T) {
	for _, a := range edgeIds() {
		for _, b := range edgeIds() {
			for _, keys := range [][2]int{{0, 0}, {0, 1}, {1, 0}} {
				wantMay(t, []api.Card{card(a, keys[0], "z"), card(b, keys[1], "a")})
			}
			wantMay(t, []api.Card{card(a, 0), card(b, 0), card("mm", 0)})
		}
	}
}

// P13.1: two cards that stand in the wrong order, or are of one Id, side by side or not, make no shelf.
func TestMayOfWrongOrder(t *testing.T) {
	for _, n := range []int{2, 3, 9, 64, 65, 200} {
		for _, i := range []int{0, 1, n / 2, n - 2} {
			for _, k := range []int{1, n/2 + 1, n - 1} {
				if i >= k || i < 0 || k >= n {
					continue
				}
				turned, twice := plain(n), plain(n)
				turned[i], turned[k] = turned[k], turned[i]
				wantNone(t, "turned", turned)
				twice[k].Id = twice[i].Id
				wantNone(t, "twice", twice)
				twice[k] = twice[i]
				wantNone(t, "the same twice", twice)
			}
		}
		l := plain(n)
		slices.Reverse(l)
		wantNone(t, "from the last one on", l)
	}
	great := plain(1100)
	great[1098], great[1099] = great[1099], great[1098]
	wantNone(t, "the last two of 1100 turned", great)
	great[1099] = great[1098]
	wantNone(t, "the last one of 1100 twice", great)
	wantNone(t, "one Id, not side by side", []api.Card{card("a", 0), card("b", 0), card("a", 0)})
	wantNone(t, "by keys", []api.Card{card("b", 1), card("a", 2)})
	wantNone(t, "by numbers", []api.Card{card("9", 0), card("10", 0)})
	wantNone(t, "by letters", []api.Card{card("a", 0), card("B", 0)})
	wantNone(t, "by length", []api.Card{card("z", 0), card("aa", 0)})
	wantNone(t, "as signs of one byte", []api.Card{card("\x80", 0), card("~", 0)})
	wantNone(t, "a beginning behind", []api.Card{card("aa", 0), card("a", 0)})
}

// P13.1: cards that may just be, each alone, ahead of others, between them and behind them.
func TestMayOfEdges(t *testing.T) {
	for _, c := range edges() {
		for _, n := range []int{1, 2, 9, 64, 65, 1100} {
			for _, at := range []int{0, n / 2, n - 1} {
				l := plain(n)
				c.Id = l[at].Id
				l[at] = c
				if !shelf.May(l) {
					t.Errorf("%s, the card %d of %d: false", told(c), at, n)
				}
			}
		}
	}
}

// P13.1: a card that may not be makes no shelf, wherever it stands, however many there are.
func TestMayOfFlaws(t *testing.T) {
	for what, flaw := range flaws() {
		for _, n := range []int{1, 2, 9, 64, 65} {
			for _, at := range []int{0, n / 2, n - 1} {
				l := plain(n)
				flaw(&l[at])
				wantNone(t, what+", the card "+strconv.Itoa(at)+" of "+strconv.Itoa(n), l)
			}
		}
		for _, at := range []int{0, 1, 64, 550, 1099} {
			l := plain(1100)
			flaw(&l[at])
			if shelf.May(l) || shelf.Find(l, l[70].Id) != -1 || len(shelf.ByKey(l)) != 0 {
				t.Errorf("%s, the card %d of 1100: it may not be", what, at)
			}
		}
	}
	for _, n := range []int{1, 2, 64, 65, 1100} {
		l := plain(n)
		l[0].Id = ""
		wantNone(t, "an empty Id of "+strconv.Itoa(n), l)
	}
	wantNone(t, "a zero card", make([]api.Card, 1))
	wantNone(t, "zero cards", make([]api.Card, 70))
}

// P13.1, P13.2, P13.3: more cards than there may be: nothing is told of them.
func TestTooMany(t *testing.T) {
	for _, n := range []int{1101, 1102, 3000} {
		wantNone(t, strconv.Itoa(n)+" cards", plain(n))
	}
	l := full(1101)
	if at := shelf.Find(l, l[0].Id); at != -1 || shelf.May(l) || len(shelf.ByKey(l)) != 0 {
		t.Errorf("1101 of many words: %d", at)
	}
	if e := wantPut(t, l, l[0]); e != api.ErrArg {
		t.Errorf("1101 of many words: %d", e)
	}
}

// letters are lists of cards: all rows of up to four of some, of which one may not be.
func letters() [][]api.Card {
	kinds := []api.Card{card("a", 1, "w"), card("a", 0), card("ab", 1, "v", "w"), card("b", 0, "w"), card("c", 1), card("", 1)}
	rows, last := [][]api.Card{nil}, [][]api.Card{nil}
	for range 4 {
		var next [][]api.Card
		for _, l := range last {
			for _, c := range kinds {
				next = append(next, append(slices.Clone(l), c))
			}
		}
		rows, last = append(rows, next...), next
	}
	return rows
}

// P13.1 to P13.3: all calls on all short lists, those that may be and those that may not.
func TestAllShort(t *testing.T) {
	ids := []string{"", "\x00", "a", "a\x00", "aa", "ab", "abc", "b", "bb", "c", "d", strings.Repeat("a", 17)}
	cards := []api.Card{card("0", 2), card("a", 1, "w"), card("a", 1, "v"), card("a", 2, "w"), card("aa", 0, "w"), card("ab", 0), card("b", 5, "w", "w"), card("c", 1), card("d", 1), card("", 1), card("a", -1), card("e", 1, "")}
	for _, l := range letters() {
		wantAll(t, l, ids, cards)
	}
}

// around are Ids of a shelf, and others below all, above all, and between any two; the empty one, and one that is too long.
func around(l []api.Card) []string {
	ids := []string{"", "\x00", "\x00\x00", behind, behind[:3], strings.Repeat("z", 17)}
	for _, c := range l {
		ids = append(ids, c.Id, c.Id+"\x00", c.Id+"\xff", c.Id[:len(c.Id)-1], c.Id[:len(c.Id)-1]+string([]byte{c.Id[len(c.Id)-1] - 1}))
	}
	return ids
}

// P13.1: each card is found where it stands, and no other one.
func TestFind(t *testing.T) {
	for _, n := range []int{0, 1, 2, 3, 4, 5, 6, 7, 8, 9, 15, 16, 17, 31, 32, 33, 64, 65} {
		l := plain(n)
		for i, c := range l {
			if at := shelf.Find(l, c.Id); at != i {
				t.Errorf("%q of %d: %d; want %d", c.Id, n, at, i)
			}
		}
		for _, id := range around(l) {
			wantFind(t, l, id)
		}
	}
	for _, l := range shelves() {
		ids := edgeIds()
		if len(l) > 0 {
			ids = append(ids, around([]api.Card{l[0], l[len(l)/2], l[len(l)-1]})...)
		}
		if len(l) > 60 && len(l[0].W) > 100 {
			ids = ids[len(ids)-9:]
		}
		for _, id := range ids {
			wantFind(t, l, id)
		}
	}
}

// P13.1: of shelves that are about as great as there may be, too.
func TestFindOfMany(t *testing.T) {
	for _, n := range []int{1099, 1100} {
		l := plain(n)
		for i, c := range l {
			if at := shelf.Find(l, c.Id); at != i {
				t.Errorf("%q of %d: %d; want %d", c.Id, n, at, i)
			}
			if at := shelf.Find(l, c.Id+"\x00"); at != -1 {
				t.Errorf("behind %q of %d: %d", c.Id, n, at)
			}
		}
		for _, id := range []string{"", "a", "z", tag(n), tag(9999), "i", "i000"} {
			if at := shelf.Find(l, id); at != -1 {
				t.Errorf("%q of %d: %d", id, n, at)
			}
		}
	}
}

// P13.2: a card comes ahead of all, behind all, between any two, or instead of the one of its Id.
func TestPut(t *testing.T) {
	for _, l := range shelves() {
		if len(l) > 70 || len(l) > 0 && len(l[0].W) > 100 {
			continue
		}
		for _, id := range around(l) {
			wantPut(t, l, card(id, 3, "new", "word"))
		}
		for _, id := range edgeIds() {
			wantPut(t, l, card(id, 3))
		}
	}
}

// P13.2: by hand: what is put ahead of all, behind all, between two, and instead of one, with another Key, with other words, with none, and the same.
func TestPutByHand(t *testing.T) {
	b, d := card("b", 5, "x", "y"), card("d", 6, "z")
	for _, c := range []struct {
		put  api.Card
		want []api.Card
	}{
		{card("a", 9, "x"), []api.Card{card("a", 9, "x"), b, d}},
		{card("c", 0, "x"), []api.Card{b, card("c", 0, "x"), d}},
		{card("e", 1, "x"), []api.Card{b, d, card("e", 1, "x")}},
		{card("b", 9, "x", "y"), []api.Card{card("b", 9, "x", "y"), d}},
		{card("d", 0, "z"), []api.Card{b, card("d", 0, "z")}},
		{card("b", 5, "y", "x"), []api.Card{card("b", 5, "y", "x"), d}},
		{card("b", 5, "x"), []api.Card{card("b", 5, "x"), d}},
		{card("d", 6, "z", "z"), []api.Card{b, card("d", 6, "z", "z")}},
		{card("b", 5), []api.Card{card("b", 5), d}},
		{card("d", 6), []api.Card{b, card("d", 6)}},
		{b, []api.Card{b, d}},
		{d, []api.Card{b, d}},
	} {
		got, e := shelf.Put([]api.Card{b, d}, c.put)
		if e != api.OK || !same(got, c.want) {
			t.Errorf("%s: %d, %s; want %s", told(c.put), e, told(got...), told(c.want...))
		}
	}
}

// P13.2: cards that may just be are put, and those that may not are not.
func TestPutEdges(t *testing.T) {
	for _, l := range [][]api.Card{nil, {card("m", 7, "w")}, {card("a", 1)}, {card("z", 1)}, {card("a", 1), card("m", 2), card("z", 3)}, plain(64), full(65)} {
		for _, c := range edges() {
			if e := wantPut(t, l, c); e != api.OK {
				t.Errorf("%s: %d", told(c), e)
			}
		}
		for _, c := range badCards() {
			if e := wantPut(t, l, c); e != api.ErrArg {
				t.Errorf("%s: %d", told(c), e)
			}
		}
	}
}

// orders are all orders of as many as n says.
func orders(n int) [][]int {
	if n == 0 {
		return [][]int{nil}
	}
	var out [][]int
	for _, p := range orders(n - 1) {
		for at := range n {
			out = append(out, slices.Insert(slices.Clone(p), at, n-1))
		}
	}
	return out
}

// put are cards that are put one after the other, beginning with none.
func put(t *testing.T, cards ...api.Card) []api.Card {
	t.Helper()
	var l []api.Card
	for _, c := range cards {
		var e api.Errno
		if l, e = shelf.Put(l, c); e != api.OK {
			t.Fatalf("%s: %d", told(c), e)
		}
	}
	return l
}

// P13.2: in whatever order cards are put, the shelf is the same.
func TestPutInAnyOrder(t *testing.T) {
	cards := []api.Card{card("a", 2, "w"), card("a\x00", 2), card("aa", 0, "v", "w"), card("b", 9, "w"), card("ba", 1), card("\xff", 0, "u")}
	for _, p := range orders(len(cards)) {
		var l []api.Card
		for _, i := range p {
			l = append(l, cards[i])
		}
		if got := put(t, l...); !same(got, cards) {
			t.Errorf("%v: %s", p, told(got...))
		}
	}
	dice := rand.New(rand.NewSource(13))
	for _, want := range [][]api.Card{edgeCards(), plain(63), plain(64), plain(65), plain(300)} {
		l := slices.Clone(want)
		for range 5 {
			dice.Shuffle(len(l), func(i, k int) { l[i], l[k] = l[k], l[i] })
			if got := put(t, l...); !same(got, want) {
				t.Errorf("%d cards: %s", len(l), told(got...))
			}
		}
	}
}

// P13.2: the shelf is as great as it may be: no card of another Id is put, each of an Id that is there is.
func TestPutFull(t *testing.T) {
	l := plain(1100)
	for _, id := range []string{"a", "z", "\x00", behind, tag(0) + "x", tag(550) + "\x00", tag(1099)[:4], tag(1100)} {
		if e := wantPut(t, l, card(id, 1, "w")); e != api.ErrFull {
			t.Errorf("%q: %d", id, e)
		}
	}
	for _, at := range []int{0, 1, 549, 550, 1098, 1099} {
		for _, c := range edges()[at%3*3:][:3] {
			c.Id = l[at].Id
			if e := wantPut(t, l, c); e != api.OK {
				t.Errorf("%d: %d", at, e)
			}
		}
	}
	for _, id := range []string{"a", "z", tag(550) + "\x00"} {
		if e := wantPut(t, l[:1099], card(id, 1, "w")); e != api.OK {
			t.Errorf("%q to 1099: %d", id, e)
		}
		if e := wantPut(t, l[1:], card(id, 1, "w")); e != api.OK {
			t.Errorf("%q to 1099: %d", id, e)
		}
	}
	for _, n := range []int{1098, 1099} {
		if e := wantPut(t, plain(n), card(tag(n), 1)); e != api.OK {
			t.Errorf("one more than %d: %d", n, e)
		}
	}
}

// P13.2: so it is where all cards have as many words as they may have.
func TestPutFullOfWords(t *testing.T) {
	l := full(1100)
	if e := wantPut(t, l, card("z", 1, numbered(0, 120)...)); e != api.ErrFull {
		t.Errorf("one more: %d", e)
	}
	if e := wantPut(t, l, card(l[7].Id, 1, "w")); e != api.OK {
		t.Errorf("instead of one: %d", e)
	}
	if e := wantPut(t, l[1:], card("z", 1, numbered(0, 120)...)); e != api.OK {
		t.Errorf("to 1099: %d", e)
	}
}

// P13.2, R2: ErrArg is told ahead of ErrFull, whatever of both may not be.
func TestPutFirstError(t *testing.T) {
	l := plain(1100)
	for _, c := range badCards() {
		if e := wantPut(t, l, c); e != api.ErrArg {
			t.Errorf("%s: %d", told(c), e)
		}
		c.Id = l[70].Id
		if !mayCard(c) {
			wantPut(t, l, c)
		}
	}
	for what, flaw := range flaws() {
		for _, n := range []int{1100, 1101} {
			l := plain(n)
			flaw(&l[n-2])
			for _, c := range []api.Card{card("z", 1), l[0], flawed(card("z", 1), flaw), flawed(l[0], flaw)} {
				if e := wantPut(t, l, c); e != api.ErrArg {
					t.Errorf("%s, %d: %s: %d", what, n, told(c), e)
				}
			}
		}
	}
	l[3], l[4] = l[4], l[3]
	for _, c := range []api.Card{card("z", 1), l[0], l[3], card("z", -1)} {
		if e := wantPut(t, l, c); e != api.ErrArg {
			t.Errorf("turned: %s: %d", told(c), e)
		}
	}
	l = append(plain(1100), card("z", 1))
	for _, c := range []api.Card{card("z", 2), card("zz", 1), l[0], card("z", -1), card("", 0)} {
		if e := wantPut(t, l, c); e != api.ErrArg {
			t.Errorf("1101: %s: %d", told(c), e)
		}
	}
}

// P13.2: the card of an Id goes, and no other; of an Id that is not there none.
func TestDel(t *testing.T) {
	for n := range 12 {
		l := plain(n)
		for _, id := range around(l) {
			if is := wantDel(t, l, id); is != (findOf(l, id) != -1) {
				t.Errorf("%q of %d: %t", id, n, is)
			}
		}
	}
	for _, l := range shelves() {
		ids := edgeIds()
		if len(l) > 0 {
			ids = append(ids, around([]api.Card{l[0], l[len(l)/2], l[len(l)-1]})...)
		}
		if len(l) > 60 {
			ids = ids[len(ids)-18:]
		}
		for _, id := range ids {
			wantDel(t, l, id)
		}
	}
	for _, l := range greatShelves() {
		for _, c := range []api.Card{l[0], l[600], l[len(l)-1]} {
			if !wantDel(t, l, c.Id) {
				t.Errorf("%q of %d: false", c.Id, len(l))
			}
			if wantDel(t, l, c.Id+"\x00") {
				t.Errorf("behind %q of %d: true", c.Id, len(l))
			}
		}
		for _, id := range []string{"", "z"} {
			if wantDel(t, l, id) {
				t.Errorf("%q of %d: true", id, len(l))
			}
		}
	}
}

// P13.2: by hand: the first card, one between, the last, and none.
func TestDelByHand(t *testing.T) {
	a, b, c := card("a", 3, "x"), card("b", 2), card("c", 1, "y")
	for _, d := range []struct {
		id   string
		want []api.Card
		is   bool
	}{
		{"a", []api.Card{b, c}, true}, {"b", []api.Card{a, c}, true}, {"c", []api.Card{a, b}, true},
		{"", []api.Card{a, b, c}, false}, {"\x00", []api.Card{a, b, c}, false}, {"aa", []api.Card{a, b, c}, false}, {"b\x00", []api.Card{a, b, c}, false}, {"d", []api.Card{a, b, c}, false}, {"A", []api.Card{a, b, c}, false},
	} {
		got, is := shelf.Del([]api.Card{a, b, c}, d.id)
		if is != d.is || !same(got, d.want) {
			t.Errorf("%q: %t, %s; want %s", d.id, is, told(got...), told(d.want...))
		}
	}
}

// P13.2: cards are deleted till there are none, in all orders, and then there is none to delete.
func TestDelToNone(t *testing.T) {
	for _, p := range orders(5) {
		l := plain(5)
		for done, i := range p {
			var is bool
			if l, is = shelf.Del(l, tag(i)); !is || len(l) != 4-done || shelf.Find(l, tag(i)) != -1 || !shelf.May(l) {
				t.Fatalf("%v, %d: %t, %s", p, i, is, told(l...))
			}
			if again, is := shelf.Del(l, tag(i)); is || !same(again, l) {
				t.Fatalf("%v, %d again: %t, %s", p, i, is, told(again...))
			}
		}
	}
	for _, id := range []string{"", "x"} {
		if l, is := shelf.Del(nil, id); is || len(l) != 0 {
			t.Errorf("%q of none: %t, %s", id, is, told(l...))
		}
	}
	dice := rand.New(rand.NewSource(131))
	l := plain(1100)
	for _, i := range dice.Perm(1100) {
		was := len(l)
		var is bool
		if l, is = shelf.Del(l, tag(i)); !is || len(l) != was-1 {
			t.Fatalf("%d of %d: %t", i, was, is)
		}
	}
	if len(l) != 0 {
		t.Errorf("left: %s", told(l...))
	}
}

// P13.3: all shelves of four cards of four keys, with and without words: in every order that Before goes by.
func TestByKey(t *testing.T) {
	seen := map[string]int{}
	for n := range 256 * 16 {
		var l []api.Card
		for i, id := range []string{"a", "aa", "b", "\xff"} {
			c := card(id, n>>(4+2*i)&3)
			if n>>i&1 == 1 {
				c.W = numbered(4-i, 4-i)
			}
			l = append(l, c)
		}
		wantByKey(t, l)
		order := ""
		for _, c := range shelf.ByKey(l) {
			order += c.Id + " "
		}
		seen[order]++
	}
	if len(seen) != 24 {
		t.Errorf("%d orders", len(seen))
	}
	for _, l := range append(shelves(), greatShelves()...) {
		wantByKey(t, l)
	}
}

// P13.3: by hand: the key comes first, then the Id, byte by byte; words are of no matter.
func TestByKeyByHand(t *testing.T) {
	l := []api.Card{card("10", 9), card("9", 10, "a"), card("B", 9, "z"), card("a", 9, "a"), card("a\x00", 0), card("b", 1<<30), card("é", 9, "b"), card("\xff", 9)}
	want := []api.Card{card("a\x00", 0), card("10", 9), card("B", 9, "z"), card("a", 9, "a"), card("é", 9, "b"), card("\xff", 9), card("9", 10, "a"), card("b", 1<<30)}
	if got := shelf.ByKey(l); !same(got, want) {
		t.Error(told(got...))
	}
	one := plain(90)
	for i := range one {
		one[i].Key = 4
	}
	if got := shelf.ByKey(one); !same(got, one) {
		t.Errorf("of one key: %s", told(got...))
	}
	down := plain(90)
	for i := range down {
		down[i].Key = 90 - i
	}
	got := shelf.ByKey(down)
	slices.Reverse(got)
	if !same(got, down) {
		t.Errorf("of keys that fall: %s", told(got...))
	}
}

// variants are lists that differ from one another in each one part.
func variants() [][]api.Card {
	x, y := card("x", 1, "a", "b"), card("y", 2, "c")
	out := [][]api.Card{
		nil, {x}, {y}, {x, y}, {y, x}, {x, x}, {y, y}, {x, y, x}, {x, y, y}, {x, x, y}, {{}}, {{}, {}}, {x, {}}, {{}, x}, {x, y, {}}, {card("x", 1)}, {card("x", 1, "")}, {card("x", 1, "", "")},
	}
	for _, c := range []api.Card{card("z", 1, "a", "b"), card("", 1, "a", "b"), card("x\x00", 1, "a", "b"), card("X", 1, "a", "b"), card("x", 0, "a", "b"), card("x", -1, "a", "b"), card("x", 1+1<<32, "a", "b"), card("x", math.MaxInt, "a", "b"), card("x", 1, "a"), card("x", 1, "b"), card("x", 1, "b", "a"), card("x", 1, "a", "a"), card("x", 1, "a", "c"), card("x", 1, "c", "b"), card("x", 1, "a", "b", "b"), card("x", 1, "a", "b", ""), card("x", 1, "ab"), card("x", 1, "ab", ""), card("x", 1, "", "ab"), card("x", 1, "a", "B"), card("x", 1, "a", "b\x00"), card("xa", 1, "b")} {
		out = append(out, []api.Card{c, y}, []api.Card{y, c}, []api.Card{c})
	}
	for _, at := range []int{0, 60, 119} {
		l := full(3)
		l[2].W[at] = "other"
		out = append(out, l)
	}
	return append(out, full(3), full(2), plain(1100), plain(1101), plain(1099), full(1100), full(1101))
}

// P13.1: two are the same just if all their parts are, in order, whether they may be or not.
func TestSame(t *testing.T) {
	all := variants()
	for i, a := range all {
		for k, b := range all {
			in, other := roomy(a), roomy(b)
			if is := shelf.Same(in, other); is != (i == k) {
				t.Errorf("Same(%s; %s): %t", told(a...), told(b...), is)
			}
			if len(a) < 20 && len(b) < 20 && (!whole(in, a) || !whole(other, b)) {
				t.Errorf("Same(%s; %s): changed", told(a...), told(b...))
			}
		}
	}
	short := letters()
	for i, a := range short {
		for k, b := range short {
			if is := shelf.Same(a, b); is != (i == k) {
				t.Errorf("Same(%s; %s): %t", told(a...), told(b...), is)
			}
		}
	}
	for _, bad := range badCards() {
		if !shelf.Same([]api.Card{bad, bad}, copied([]api.Card{bad, bad})) || shelf.Same([]api.Card{bad}, []api.Card{card("ok", 1)}) {
			t.Errorf("Same of %s", told(bad))
		}
	}
}

// P13.1: one part of one card makes two shelves unlike, wherever it stands.
func TestSameEachPart(t *testing.T) {
	parts := map[string]func(c *api.Card){
		"Id":        func(c *api.Card) { c.Id += "x" },
		"Key":       func(c *api.Card) { c.Key++ },
		"a word":    func(c *api.Card) { c.W = append(slices.Clone(c.W), "x") },
		"the first": func(c *api.Card) { c.W = append([]string{"x"}, c.W...) },
	}
	for what, change := range parts {
		for _, n := range []int{1, 2, 9, 64, 1100, 1101} {
			for _, at := range []int{0, n / 2, n - 1} {
				a, b := plain(n), plain(n)
				if change(&b[at]); shelf.Same(a, b) || shelf.Same(b, a) {
					t.Errorf("%s of the card %d of %d", what, at, n)
				}
				if change(&a[at]); !shelf.Same(a, b) {
					t.Errorf("%s of the card %d of %d, of both", what, at, n)
				}
			}
		}
	}
}

// text is one of few bytes, as it happens.
func text(dice *rand.Rand, most int, of string) string {
	b := make([]byte, 1+dice.Intn(most))
	for i := range b {
		b[i] = of[dice.Intn(len(of))]
	}
	return string(b)
}

// dealt is a card as it happens, now and then one that may not be.
func dealt(dice *rand.Rand) api.Card {
	c := card(text(dice, 3, "ab\x00\xff"), dice.Intn(4))
	for range dice.Intn(3) * dice.Intn(4) {
		c.W = append(c.W, text(dice, 2, "ab"))
	}
	switch dice.Intn(40) {
	case 0:
		c.Id = ""
	case 1:
		c.Key = -1
	case 2:
		c.W = append(c.W, "")
	}
	return c
}

// wantHas asks that a shelf has just the cards of a model, by all calls that tell of them.
func wantHas(t *testing.T, l []api.Card, model map[string]api.Card) {
	t.Helper()
	if len(l) != len(model) || !shelf.May(l) {
		t.Fatalf("%d cards; want %d: %s", len(l), len(model), told(l...))
	}
	for id, c := range model {
		at := shelf.Find(l, id)
		if at < 0 || !same([]api.Card{l[at]}, []api.Card{c}) {
			t.Fatalf("%q: at %d of %s; want %s", id, at, told(l...), told(c))
		}
	}
}

// P13.4: what was put last, and not deleted since, is there; what was deleted is not; no other card changes; a shelf stays one.
func TestWhatWasPutLast(t *testing.T) {
	dice := rand.New(rand.NewSource(134))
	for range 30 {
		var l []api.Card
		model := map[string]api.Card{}
		for range 100 {
			c := dealt(dice)
			was := copied(l)
			if dice.Intn(3) > 0 {
				next, e := shelf.Put(l, c)
				if mayCard(c) {
					model[c.Id] = c
				}
				if (e == api.OK) != mayCard(c) {
					t.Fatalf("%s: %d", told(c), e)
				}
				l = next
			} else {
				_, there := model[c.Id]
				next, is := shelf.Del(l, c.Id)
				delete(model, c.Id)
				if is != there {
					t.Fatalf("%q: %t", c.Id, is)
				}
				l = next
			}
			wantHas(t, l, model)
			wantOthers(t, was, l, c.Id)
		}
	}
}

// wantOthers asks that all cards but that of id are what they were.
func wantOthers(t *testing.T, was, l []api.Card, id string) {
	t.Helper()
	isOne := func(c api.Card) bool { return c.Id == id }
	if !same(slices.DeleteFunc(slices.Clone(was), isOne), slices.DeleteFunc(slices.Clone(l), isOne)) {
		t.Fatalf("others than %q of %s: %s", id, told(was...), told(l...))
	}
}

// P13.4: also where there are as many cards as there may be.
func TestWhatWasPutLastOfMany(t *testing.T) {
	dice := rand.New(rand.NewSource(1100))
	l := plain(1097)
	model := map[string]api.Card{}
	for _, c := range l {
		model[c.Id] = c
	}
	refused := 0
	for range 300 {
		c := card(tag(dice.Intn(2200)), dice.Intn(9), numbered(dice.Intn(9), dice.Intn(4))...)
		_, there := model[c.Id]
		if dice.Intn(4) == 0 {
			var is bool
			if l, is = shelf.Del(l, c.Id); is != there {
				t.Fatalf("%q: %t", c.Id, is)
			}
			delete(model, c.Id)
		} else {
			want := api.OK
			if model[c.Id] = c; !there && len(l) == 1100 {
				want = api.ErrFull
				delete(model, c.Id)
				refused++
			}
			var e api.Errno
			if l, e = shelf.Put(l, c); e != want {
				t.Fatalf("%q to %d: %d; want %d", c.Id, len(l), e, want)
			}
		}
		if len(l) != len(model) || !shelf.May(l) {
			t.Fatalf("%d cards; want %d", len(l), len(model))
		}
		for _, c := range l {
			if !same([]api.Card{c}, []api.Card{model[c.Id]}) {
				t.Fatalf("%s; want %s", told(c), told(model[c.Id]))
			}
		}
	}
	if refused < 20 {
		t.Errorf("%d were refused", refused)
	}
}

// P13.1 to P13.3: lists as they happen: shelves, and others of which one part or the order is wrong.
func TestDealt(t *testing.T) {
	dice := rand.New(rand.NewSource(1313))
	shelved := 0
	for range 1500 {
		var l []api.Card
		for range dice.Intn(9) {
			if c := dealt(dice); !slices.ContainsFunc(l, func(d api.Card) bool { return d.Id == c.Id }) {
				l = append(l, c)
			}
		}
		l = byId(l)
		if dice.Intn(4) == 0 && len(l) > 1 {
			i, k := dice.Intn(len(l)), dice.Intn(len(l))
			l[i], l[k] = l[k], l[i]
		}
		if mayOf(l) {
			shelved++
		}
		var ids []string
		var cards []api.Card
		for range 5 {
			ids, cards = append(ids, dealt(dice).Id), append(cards, dealt(dice))
		}
		for _, c := range l {
			ids = append(ids, c.Id)
		}
		wantAll(t, l, ids, cards)
	}
	if shelved < 500 || shelved > 1400 {
		t.Errorf("%d shelves", shelved)
	}
}

// change changes all that was handed in.
func change(l []api.Card) {
	for i := range l {
		for k := range l[i].W {
			l[i].W[k] = "changed"
		}
		l[i] = card("changed", -3)
	}
}

// R3: what was handed in may change later: what was answered does not, and the other way round.
func TestAnswersAreNew(t *testing.T) {
	bad := []api.Card{card("b", 1, "x", "y"), card("a", -1, "", "z"), card("a", 0)}
	for _, l := range append(shelves(), plain(1100), plain(1101), bad, edgeCards()) {
		for _, c := range []api.Card{card("a", 1, "p", "q"), card(tag(0), 1, "p", "q"), card(tag(1), 1, "p", "q"), card("x", 5, "p"), card("zz", 1, "p"), card("zz", -1, "p"), card("", 1, "p")} {
			in, one := copied(l), copied([]api.Card{c})
			putted, _ := shelf.Put(in, one[0])
			deleted, _ := shelf.Del(in, c.Id)
			sorted := shelf.ByKey(in)
			change(in)
			change(one)
			wantPutted, _ := putOf(l, c)
			wantDeleted, _ := delOf(l, c.Id)
			if !same(putted, wantPutted) || !same(deleted, wantDeleted) || !same(sorted, byKeyOf(l)) {
				t.Errorf("%s, %s: the answer hangs on what was handed in", told(l...), told(c))
			}
			in, one = copied(l), copied([]api.Card{c})
			putted, _ = shelf.Put(in, one[0])
			deleted, _ = shelf.Del(in, c.Id)
			sorted = shelf.ByKey(in)
			change(putted)
			change(deleted)
			change(sorted)
			if !same(in, l) || !same(one, []api.Card{c}) {
				t.Errorf("%s, %s: what was handed in hangs on the answer", told(l...), told(c))
			}
		}
	}
}

// R3: cards that share their words are told apart in the answer.
func TestListsAreApart(t *testing.T) {
	words := []string{"a", "b", "c", "d"}
	l := []api.Card{{Id: "a", Key: 2, W: words[:2]}, {Id: "b", Key: 1, W: words[1:3]}, {Id: "c", Key: 0, W: words}}
	for _, c := range []api.Card{{Id: "b", W: words}, {Id: "d", W: words[:3]}, {Id: "", W: words}} {
		got, _ := shelf.Put(l, c)
		if want, _ := putOf(l, c); !same(got, want) || !spoil(got) {
			t.Errorf("Put: %s share", told(got...))
		}
	}
	for _, id := range []string{"a", "b", "c", "d"} {
		got, _ := shelf.Del(l, id)
		if want, _ := delOf(l, id); !same(got, want) || !spoil(got) {
			t.Errorf("Del: %s share", told(got...))
		}
	}
	if got := shelf.ByKey(l); !same(got, byKeyOf(l)) || !spoil(got) {
		t.Errorf("ByKey: %s share", told(got...))
	}
	if !slices.Equal(words, []string{"a", "b", "c", "d"}) {
		t.Errorf("%q", words)
	}
}

// R6: lists without elements may be nil or empty.
func TestEmptyLists(t *testing.T) {
	for _, l := range [][]api.Card{nil, {}, make([]api.Card, 0, 5)} {
		if at := shelf.Find(l, "x"); !shelf.May(l) || at != -1 || len(shelf.ByKey(l)) != 0 {
			t.Errorf("none: %d", at)
		}
		if m, is := shelf.Del(l, "x"); is || len(m) != 0 {
			t.Errorf("none: %t, %s", is, told(m...))
		}
		if m, e := shelf.Put(l, card("x", 1)); e != api.OK || !same(m, []api.Card{card("x", 1)}) {
			t.Errorf("none: %d, %s", e, told(m...))
		}
		for _, m := range [][]api.Card{nil, {}} {
			if !shelf.Same(l, m) || shelf.Same(l, []api.Card{{}}) || shelf.Same([]api.Card{{}}, l) {
				t.Error("Same of none")
			}
		}
	}
	if a, b := card("x", 1), (api.Card{Id: "x", Key: 1, W: []string{}}); !shelf.Same([]api.Card{a}, []api.Card{b}) || !shelf.Same([]api.Card{b}, []api.Card{a}) {
		t.Error("Same of cards without words")
	}
	if a, e := shelf.Put([]api.Card{{Id: "x", W: []string{}}}, api.Card{Id: "y", W: []string{}}); e != api.OK || !same(a, []api.Card{card("x", 0), card("y", 0)}) {
		t.Errorf("%d, %s", e, told(a...))
	}
}

// R1: calls with very much end.
func TestVeryMuch(t *testing.T) {
	many := make([]api.Card, 10000)
	for i := range many {
		many[i] = card("i"+strconv.Itoa(1000000+i), 1)
	}
	great := card("x", 1, strings.Repeat("a", 1<<20))
	wordy := card("x", 1, often("a", 200000)...)
	for _, l := range [][]api.Card{many, {great}, {wordy}, {card(strings.Repeat("x", 1<<20), 1)}, make([]api.Card, 10000)} {
		wantNone(t, "very much", l)
		if !shelf.Same(l, copied(l)) {
			t.Error("Same of very much")
		}
	}
	for _, c := range []api.Card{great, wordy, card(strings.Repeat("x", 1<<20), 1)} {
		wantPut(t, plain(9), c)
	}
	wantFind(t, plain(9), strings.Repeat("i", 1<<20))
	wantDel(t, plain(9), strings.Repeat("i", 1<<20))
}

// R5: asked again, whatever was asked between, the same is told.
func TestAgain(t *testing.T) {
	l := plain(70)
	first, _ := shelf.Put(l, card("m", 1, "w"))
	less, _ := shelf.Del(l, tag(3))
	keys := shelf.ByKey(l)
	for range 5 {
		shelf.Put(nil, card("x", 1))
		shelf.Put(l[:3], card("", 1))
		shelf.Del(plain(1101), tag(3))
		shelf.ByKey(make([]api.Card, 3))
		again, e := shelf.Put(l, card("m", 1, "w"))
		left, is := shelf.Del(l, tag(3))
		if e != api.OK || !is || !same(again, first) || !same(left, less) || !same(shelf.ByKey(l), keys) || shelf.Find(l, tag(3)) != 3 || !shelf.May(l) {
			t.Errorf("%d, %t: another shelf", e, is)
		}
	}
}
