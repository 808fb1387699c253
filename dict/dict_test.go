package dict_test

import (
	"bytes"
	"math/rand"
	"slices"
	"strings"
	"testing"

	"catchword/api"
	"catchword/dict"
)

// long is a word of so many bytes.
func long(n int) string {
	return strings.Repeat("a", n)
}

// numbered are as many words as many says, rising, of three bytes, with bytes of 0 and of 255 among them.
func numbered(first, many int) []string {
	var l []string
	for n := first; n < first+many; n++ {
		l = append(l, string([]byte{'w', byte(n / 256), byte(n % 256)}))
	}
	return l
}

// padded are words of as many bytes as may be, the numbered ones ahead of, or behind, what they share.
func padded(many int, ahead bool) []string {
	l := numbered(0, many)
	for i, w := range l {
		if ahead {
			l[i] = w + long(api.MaxTerm-len(w))
		} else {
			l[i] = long(api.MaxTerm-len(w)) + w
		}
	}
	return l
}

// nested are words each of which begins the one behind it, from 1 byte to n.
func nested(n int) []string {
	var l []string
	for i := range n {
		l = append(l, long(i+1))
	}
	return l
}

// bytewise are all words of one byte that are at least first.
func bytewise(first int) []string {
	var l []string
	for c := first; c < 256; c++ {
		l = append(l, string([]byte{byte(c)}))
	}
	return l
}

// edges are words that may be: as few and as many, as short and as long as may be, with beginnings of each other, and with all bytes.
func edges() [][]string {
	out := [][]string{
		nil, {}, {"a"}, {"\x00"}, {"\xff"}, {"an", "and", "b"}, {"an", "and", "andes", "b"}, {"A", "Z", "a", "z"},
		{"\x00", "\x00\x00", "\x00\x01", "\x00\xff", "\x01"}, {"\xfe", "\xfe\xff", "\xff", "\xff\x00", "\xff\xff"},
		{"\x00", "\xff"}, {"\x7f", "\x80"}, {"a", "a\x00", "a\xff", "b"}, {"a\x7f", "a\x80", "a\x80\x00"},
		{"z", "\u00e9", "\u00fc", "\u6f22", "\U0001f600"}, {"\xc3", "\xc3\xa9"},
		{long(1)}, {long(31)}, {long(32)}, {long(31), long(32)}, {"a", long(32)}, {long(32), "b"}, {long(31) + "a", long(31) + "b"},
		{strings.Repeat("\x00", 32)}, {strings.Repeat("\x00", 31), strings.Repeat("\x00", 32)}, {strings.Repeat("\xff", 32)},
		nested(2), nested(32), bytewise(56), bytewise(57), padded(200, true), padded(200, false),
	}
	for _, n := range []int{1, 2, 3, 126, 127, 128, 129, 199, 200} {
		out = append(out, numbered(0, n), numbered(1000-n, n))
	}
	return out
}

// mixed are words that may be, of as many words and bytes as it happens, the same ones each time.
func mixed(many int) [][]string {
	dice := rand.New(rand.NewSource(7))
	letters := []string{"ab", "\x00\xff", "\x00a\x7f\x80\xff", "abcdefghijklmnopqrstuvwxyz"}
	var out [][]string
	for i := range many {
		signs, size, set := letters[i%len(letters)], 1+dice.Intn(32), map[string]int{}
		for range dice.Intn(201) {
			w := make([]byte, 1+dice.Intn(size))
			for k := range w {
				w[k] = signs[dice.Intn(len(signs))]
			}
			set[string(w)]++
		}
		out = append(out, ordered(set))
	}
	return out
}

// beyond are words that may not be.
func beyond() [][]string {
	out := [][]string{
		{""}, {"", ""}, {"", "a"}, {"a", ""}, {"a", "", "b"}, make([]string, 200), make([]string, 201),
		{long(33)}, {long(34)}, {long(255)}, {long(256)}, {long(1 << 16)}, {"a", long(33)}, {long(32), long(33)}, {long(33), "b"}, {strings.Repeat("\u00e9", 17)},
		{"a", "a"}, {"a", "b", "b"}, {"a", "b", "a"}, {"\x00", "\x00"}, {"\xff", "\xff"}, {long(32), long(32)},
		{"b", "a"}, {"a", "c", "b"}, {"ab", "a"}, {"a", "abc", "ab"}, {"a\x00", "a"}, {"\xff", "\x00"}, {"\x80", "\x7f"}, {"a\x80", "a\x7f"}, {"a", "A"}, {"aa", "b", "ab"},
		numbered(0, 201), numbered(0, 202), numbered(0, 256), numbered(0, 5000), bytewise(55), bytewise(0), nested(33), padded(201, true), padded(201, false),
		append(numbered(0, 200), "w"), append(numbered(0, 200), ""), append([]string{""}, numbered(0, 199)...), append([]string{""}, numbered(0, 200)...),
	}
	for _, n := range []int{2, 3, 100, 200} { // a fault of one word alone
		for _, i := range []int{0, 1, n / 2, n - 1} {
			l := numbered(0, n)
			at := func(w string) []string {
				m := slices.Clone(l)
				m[i] = w
				return m
			}
			out = append(out, at(""), at(l[i]+long(30)), at(l[(i+1)%n]), at(l[(i+n-1)%n]))
		}
	}
	return out
}

// below tells whether a is below b, byte by byte, from the left.
func below(a, b string) bool {
	for i := 0; i < len(b); i++ {
		if i == len(a) || a[i] < b[i] {
			return true
		}
		if a[i] > b[i] {
			return false
		}
	}
	return false
}

// ordered are the words of a set, each at the place of how many are below it.
func ordered(set map[string]int) []string {
	l := make([]string, len(set))
	for w := range set {
		n := 0
		for v := range set {
			if below(v, w) {
				n++
			}
		}
		l[n] = w
	}
	return l
}

// may is what May must answer, worked out by holding each word against all behind it.
func may(l []string) bool {
	if len(l) > 200 {
		return false
	}
	for i, w := range l {
		if len(w) < 1 || len(w) > 32 {
			return false
		}
		for _, v := range l[i+1:] {
			if !below(w, v) {
				return false
			}
		}
	}
	return true
}

// or is what Or must answer, worked out by a set.
func or(lists [][]string) []string {
	set := map[string]int{}
	for _, l := range lists {
		if !may(l) {
			return nil
		}
		for _, w := range l {
			set[w]++
		}
	}
	if len(set) > 200 {
		return nil
	}
	return ordered(set)
}

// packed are the bytes of words that may be; all numbers but that of words are below 128.
func packed(l []string) []byte {
	b := []byte{byte(len(l))}
	if len(l) > 127 {
		b = []byte{byte(len(l)%128 + 128), 1}
	}
	for i, w := range l {
		n := 0
		if i > 0 {
			for !strings.HasPrefix(l[i-1], w[:len(w)-n]) {
				n++
			}
			n = len(w) - n
		}
		b = append(b, byte(n), byte(len(w)-n))
		b = append(b, w[n:]...)
	}
	return b
}

// unpacked is what Unpack must answer, worked out by asking of each word all that it must be.
func unpacked(b []byte) ([]string, api.Errno) {
	left := b
	number := func() int { // no number from 128 * 128 on may stand anywhere
		switch {
		case len(left) > 0 && left[0] < 128:
			n := int(left[0])
			left = left[1:]
			return n
		case len(left) > 1 && left[1] > 0 && left[1] < 128:
			n := int(left[0]) - 128 + 128*int(left[1])
			left = left[2:]
			return n
		}
		left = nil
		return 1 << 14
	}
	many, l, ahead := number(), []string{}, ""
	if many > 200 {
		return nil, api.ErrForm
	}
	for range many {
		same, more := number(), number()
		if same > len(ahead) || more < 1 || same+more > 32 || more > len(left) {
			return nil, api.ErrForm
		}
		if same < len(ahead) && left[0] <= ahead[same] { // where both part the word must be above
			return nil, api.ErrForm
		}
		ahead = ahead[:same] + string(left[:more])
		left = left[more:]
		l = append(l, ahead)
	}
	if len(left) > 0 {
		return nil, api.ErrForm
	}
	return l, api.OK
}

// texts are what words are asked for: each of them, all around each of them, and what no word may be.
func texts(l []string) []string {
	out := []string{"", "\x00", "a", "an", "b", "w", "\x7f", "\x80", "\xff", long(31), long(32), long(33), long(1000), strings.Repeat("\x00", 33), strings.Repeat("\xff", 33)}
	for _, w := range l {
		out = append(out, w, w+"\x00", w+"\xff", w+long(32), w+long(33))
		if n := len(w); n > 0 {
			out = append(out, w[:n-1], w[:n/2], w[:n-1]+string([]byte{w[n-1] + 1}), w[:n-1]+string([]byte{w[n-1] - 1}), w[1:], strings.ToUpper(w))
		}
	}
	return out
}

func wantPlaces(t *testing.T, l []string, text string, find, below int) {
	t.Helper()
	if got := dict.Find(l, text); got != find {
		t.Errorf("Find(%q, %q): %d; want %d", l, text, got, find)
	}
	if got := dict.Below(l, text); got != below {
		t.Errorf("Below(%q, %q): %d; want %d", l, text, got, below)
	}
}

func wantOr(t *testing.T, want []string, lists ...[]string) {
	t.Helper()
	if got := dict.Or(lists...); !slices.Equal(got, want) {
		t.Errorf("Or(%q): %q; want %q", lists, got, want)
	}
}

func wantPack(t *testing.T, l []string, want []byte) {
	t.Helper()
	if got := dict.Pack(l); !bytes.Equal(got, want) {
		t.Errorf("Pack(%q): %v; want %v", l, got, want)
	}
}

func wantUnpack(t *testing.T, b []byte, want []string, e api.Errno) {
	t.Helper()
	if got, gotE := dict.Unpack(b); !slices.Equal(got, want) || gotE != e {
		t.Errorf("Unpack(%v): %q, %d; want %q, %d", b, got, gotE, want, e)
	}
}

// wantForm asks that no words have these bytes, by the test's own reading, too.
func wantForm(t *testing.T, b []byte) {
	t.Helper()
	if l, e := unpacked(b); e == api.OK {
		t.Errorf("%v are the bytes of %q", b, l)
	}
	wantUnpack(t, b, nil, api.ErrForm)
}

// wantRead asks for what the words say of b, whatever it is.
func wantRead(t *testing.T, b []byte) {
	t.Helper()
	l, e := unpacked(b)
	wantUnpack(t, b, l, e)
}

// P7.1: words that may be, at all edges.
func TestMay(t *testing.T) {
	for _, l := range slices.Concat(edges(), mixed(200)) {
		if !may(l) || !dict.May(l) {
			t.Errorf("%q may be", l)
		}
	}
}

// P7.1: words that may not be: too many, too short or too long ones, some that are there twice, or fall.
func TestMayNot(t *testing.T) {
	for _, l := range beyond() {
		if may(l) || dict.May(l) {
			t.Errorf("%q may not be", l)
		}
	}
}

// P7.1: all rows of up to four words of few bytes.
func TestMayAll(t *testing.T) {
	words := []string{"", "\x00", "a", "a\x00", "ab", "b", "\xff", long(32), long(33)}
	var grow func(l []string)
	grow = func(l []string) {
		if got, want := dict.May(l), may(l); got != want {
			t.Errorf("May(%q): %v", l, got)
		}
		if len(l) < 4 {
			for _, w := range words {
				grow(append(slices.Clone(l), w))
			}
		}
	}
	grow(nil)
}

// P7.1: the places of ordinary words.
func TestPlaces(t *testing.T) {
	l := []string{"an", "and", "andes", "b"}
	wantPlaces(t, l, "an", 0, 0)
	wantPlaces(t, l, "and", 1, 1)
	wantPlaces(t, l, "andes", 2, 2)
	wantPlaces(t, l, "b", 3, 3)
	wantPlaces(t, l, "", -1, 0)
	wantPlaces(t, l, "a", -1, 0)
	wantPlaces(t, l, "am", -1, 0)
	wantPlaces(t, l, "ana", -1, 1)
	wantPlaces(t, l, "anda", -1, 2)
	wantPlaces(t, l, "ande", -1, 2)
	wantPlaces(t, l, "andess", -1, 3)
	wantPlaces(t, l, "az", -1, 3)
	wantPlaces(t, l, "ba", -1, 4)
	wantPlaces(t, l, "\xff", -1, 4)
	wantPlaces(t, l, "AN", -1, 0)
	wantPlaces(t, l, "an"+long(40), -1, 1)
	wantPlaces(t, l, "b"+long(40), -1, 4)
	wantPlaces(t, nil, "", -1, 0)
	wantPlaces(t, nil, "a", -1, 0)
	wantPlaces(t, []string{"a"}, "a", 0, 0)
	wantPlaces(t, []string{"a"}, "b", -1, 1)
}

// P7.1: below the first word, at each one, between two, above the last one, the empty text, and longer ones than words may be.
func TestPlacesAll(t *testing.T) {
	for _, l := range slices.Concat(edges(), mixed(30)) {
		for _, text := range texts(l) {
			find, less := -1, 0
			for i, w := range l {
				if w == text {
					find = i
				}
				if below(w, text) {
					less++
				}
			}
			wantPlaces(t, l, text, find, less)
		}
	}
}

// P7.1: in words that may not be nothing is found, and none is below, even if it is there.
func TestPlacesNot(t *testing.T) {
	for _, l := range beyond() {
		for _, text := range texts(l[:min(len(l), 5)]) {
			wantPlaces(t, l, text, -1, 0)
		}
		for _, text := range l {
			wantPlaces(t, l, text, -1, 0)
		}
	}
}

// P7.2: no list, one, and many, which share words or not.
func TestOr(t *testing.T) {
	wantOr(t, nil)
	wantOr(t, nil, nil)
	wantOr(t, nil, nil, []string{}, nil)
	wantOr(t, []string{"a"}, []string{"a"})
	wantOr(t, []string{"a"}, nil, []string{"a"}, []string{})
	wantOr(t, []string{"a"}, []string{"a"}, []string{"a"}, []string{"a"})
	wantOr(t, []string{"a", "b"}, []string{"b"}, []string{"a"})
	wantOr(t, []string{"a", "b", "d", "e"}, []string{"b", "d"}, nil, []string{"a", "b", "e"}, []string{"d"})
	wantOr(t, []string{"a", "an", "and", "b"}, []string{"and"}, []string{"an", "b"}, []string{"a", "b"})
	wantOr(t, []string{"\x00", "\x00\x00", "\x7f", "\x80", "\xff"}, []string{"\x00\x00", "\xff"}, []string{"\x00", "\x80"}, []string{"\x7f"})
	wantOr(t, []string{"a", long(32), "b"}, []string{"a", "b"}, []string{long(32)})
	wantOr(t, nested(32), nested(31), []string{long(32)})
	for _, l := range edges() {
		wantOr(t, l, l)
		wantOr(t, l, l, nil, l)
	}
}

// P7.2: lists of as many words as may be, in ways that share more or fewer of them, two or three at a time.
func TestOrLists(t *testing.T) {
	all := slices.Concat(edges(), mixed(20))
	for i, a := range all {
		for k, b := range all {
			c := all[(i*7+k*3)%len(all)]
			wantOr(t, or([][]string{a, b}), a, b)
			wantOr(t, or([][]string{a, b, c}), a, b, c)
		}
	}
}

// P7.2: each word in a list of its own, more lists than there are words, and very many lists.
func TestOrManyLists(t *testing.T) {
	l := numbered(0, 200)
	var lists [][]string
	for i := range l {
		lists = append(lists, l[199-i:200-i], nil, l[i:i+1], l[i:])
	}
	wantOr(t, l, lists...)
	lists = append(lists, []string{"x"})
	wantOr(t, nil, lists...)
	lists = make([][]string, 20000)
	wantOr(t, nil, lists...)
	for i := range lists {
		lists[i] = l[i%200 : i%200+1]
	}
	wantOr(t, l, lists...)
	lists[11111] = []string{"", "a"}
	wantOr(t, nil, lists...)
}

// P7.2: with a list that may not be, wherever it stands, there is nothing.
func TestOrNot(t *testing.T) {
	good := []string{"an", "and", "b"}
	for _, l := range beyond() {
		wantOr(t, nil, l)
		wantOr(t, nil, l, good)
		wantOr(t, nil, good, l)
		wantOr(t, nil, nil, l)
		wantOr(t, nil, good, nil, l, good)
		wantOr(t, nil, l, l)
		wantOr(t, nil, l, numbered(0, 200), numbered(200, 200))
		wantOr(t, nil, numbered(0, 200), numbered(200, 200), l)
	}
}

// P7.2: there may be just 200 words of all lists, not one more; what is there twice counts once.
func TestOrFull(t *testing.T) {
	for cut := range 202 {
		l := numbered(300, 201)
		if cut <= 200 {
			wantOr(t, l[:200], l[:cut], l[cut:200])
			wantOr(t, l[:200], l[cut:200], l[:cut])
			wantOr(t, l[:200], l[:200], l[:cut], l[cut:200])
		}
		if cut > 0 && cut < 201 {
			wantOr(t, nil, l[:cut], l[cut:])
			wantOr(t, nil, l[cut:], l[:cut])
		}
	}
	l := numbered(0, 201)
	var odd, even []string
	for i, w := range l {
		if i%2 == 1 {
			odd = append(odd, w)
		} else {
			even = append(even, w)
		}
	}
	wantOr(t, nil, odd, even)
	wantOr(t, l[:200], odd, even[:100])
	wantOr(t, l[1:], even[1:], odd)
	wantOr(t, l[:200], l[:200], l[:200], odd, even[:100], odd)
	wantOr(t, nil, l[:200], l[1:])
	wantOr(t, nil, l[:200], []string{"a"})
	wantOr(t, nil, []string{"x"}, l[:200])
	wantOr(t, nil, l[:200], numbered(1000, 200))
}

// P7.3: the bytes of the chapter's example, of no words, and of others.
func TestPack(t *testing.T) {
	wantPack(t, []string{"an", "and", "b"}, []byte{3, 0, 2, 'a', 'n', 2, 1, 'd', 0, 1, 'b'})
	wantPack(t, nil, []byte{0})
	wantPack(t, []string{}, []byte{0})
	wantPack(t, []string{"a"}, []byte{1, 0, 1, 'a'})
	wantPack(t, []string{"\x00"}, []byte{1, 0, 1, 0})
	wantPack(t, []string{"\x00", "\x00\x00", "\x00\xff", "\xff"}, []byte{4, 0, 1, 0, 1, 1, 0, 1, 1, 255, 0, 1, 255})
	wantPack(t, []string{"a", "b"}, []byte{2, 0, 1, 'a', 0, 1, 'b'})
	wantPack(t, []string{"abc", "abd", "b"}, []byte{3, 0, 3, 'a', 'b', 'c', 2, 1, 'd', 0, 1, 'b'})
	wantPack(t, []string{"aba", "bba"}, []byte{2, 0, 3, 'a', 'b', 'a', 0, 3, 'b', 'b', 'a'})
	wantPack(t, []string{"\u00e9", "\u00ea"}, []byte{2, 0, 2, 0xc3, 0xa9, 1, 1, 0xaa})
	wantPack(t, []string{long(32)}, append([]byte{1, 0, 32}, long(32)...))
	wantPack(t, []string{long(31) + "b", long(31) + "c"}, append(append([]byte{2, 0, 32}, long(31)+"b"...), 31, 1, 'c'))
	b := dict.Pack(numbered(0, 127))
	if len(b) != 1+5+126*3 || !bytes.HasPrefix(b, []byte{127, 0, 3, 'w', 0, 0, 2, 1, 1, 2, 1, 2}) {
		t.Errorf("127 words: %v", b)
	}
	b = dict.Pack(numbered(0, 200))
	if len(b) != 2+5+199*3 || !bytes.HasPrefix(b, []byte{200, 1, 0, 3, 'w', 0, 0, 2, 1, 1}) || !bytes.HasSuffix(b, []byte{2, 1, 199}) {
		t.Errorf("200 words: %v", b)
	}
}

// P7.3: the bytes of words at all edges.
func TestPackAll(t *testing.T) {
	for _, l := range slices.Concat(edges(), mixed(200)) {
		wantPack(t, l, packed(l))
	}
}

// P7.3: words that may not be have no bytes.
func TestPackNot(t *testing.T) {
	for _, l := range beyond() {
		wantPack(t, l, nil)
	}
}

// P7.3, P7.4: what is packed is unpacked as it.
func TestPackedIsUnpacked(t *testing.T) {
	for _, l := range slices.Concat(edges(), mixed(300)) {
		wantUnpack(t, dict.Pack(l), l, api.OK)
		wantUnpack(t, packed(l), l, api.OK)
		wantRead(t, packed(l))
	}
	wantUnpack(t, []byte{3, 0, 2, 'a', 'n', 2, 1, 'd', 0, 1, 'b'}, []string{"an", "and", "b"}, api.OK)
	wantUnpack(t, []byte{0}, nil, api.OK)
}

// P7.3: bytes that are cut off, or have more behind them, are no words'.
func TestUnpackCut(t *testing.T) {
	for _, l := range edges() {
		b := packed(l)
		for cut := range b {
			wantForm(t, b[:cut])
		}
		for _, tail := range [][]byte{{0}, {1}, {255}, {0, 0}, {0, 1, 255}, {32, 0}, b} {
			wantForm(t, slices.Concat(b, tail))
		}
	}
	wantForm(t, nil)
	wantForm(t, []byte{})
	wantForm(t, []byte{1})
	wantForm(t, []byte{1, 0})
	wantForm(t, []byte{1, 0, 1})
	wantForm(t, []byte{1, 0, 2, 'a'})
	wantForm(t, []byte{128})
	wantForm(t, []byte{200})
}

// P7.3: a count of one more, of one less, or of more than may be.
func TestUnpackCount(t *testing.T) {
	for _, l := range edges() {
		b := packed(l)
		own := 1 + len(l)/128
		for n := range 256 {
			count := []byte{byte(n)}
			if n > 127 {
				count = []byte{byte(n), 1} // n, as it is from 128 to 255
			}
			if n != len(l) {
				wantForm(t, slices.Concat(count, b[own:]))
			}
		}
	}
	wantForm(t, []byte{201, 1})
	for _, many := range []int{201, 255, 256} {
		b := []byte{byte(many%128 + 128), byte(many / 128), 0, 3, 'w', 0, 0}
		for i := 1; i < many; i++ {
			if i%256 == 0 {
				b = append(b, 1, 2, 1, 0)
			} else {
				b = append(b, 2, 1, byte(i))
			}
		}
		wantForm(t, b)
	}
	wantForm(t, []byte{255, 255, 255, 255, 127})
	wantForm(t, append([]byte{255, 255, 255, 255, 127}, make([]byte, 1000)...))
}

// P7.3: a beginning that is told longer than the word ahead is, or shorter than what both begin with.
func TestUnpackBeginning(t *testing.T) {
	wantUnpack(t, []byte{2, 0, 2, 'a', 'b', 2, 1, 'c'}, []string{"ab", "abc"}, api.OK)
	wantForm(t, []byte{2, 0, 2, 'a', 'b', 3, 1, 'c'})
	wantForm(t, []byte{2, 0, 2, 'a', 'b', 3, 0})
	wantForm(t, []byte{2, 0, 2, 'a', 'b', 1, 2, 'b', 'c'})
	wantForm(t, []byte{2, 0, 2, 'a', 'b', 0, 3, 'a', 'b', 'c'})
	wantUnpack(t, []byte{2, 0, 2, 'a', 'b', 1, 1, 'c'}, []string{"ab", "ac"}, api.OK)
	wantForm(t, []byte{2, 0, 2, 'a', 'b', 0, 2, 'a', 'c'})
	wantForm(t, []byte{1, 1, 1, 'a'})
	wantForm(t, []byte{1, 1, 0})
	wantForm(t, []byte{1, 32, 1, 'a'})
	wantForm(t, []byte{3, 0, 1, 'a', 1, 1, 'a', 3, 1, 'a'})
	wantForm(t, []byte{3, 0, 1, 'a', 1, 1, 'a', 1, 2, 'a', 'a'})
	wantForm(t, []byte{3, 0, 2, 'a', 'a', 0, 1, 'b', 2, 1, 'a'}) // it may not begin as words ahead of the one ahead do
	wantForm(t, []byte{2, 0, 1, 'a', 255, 255, 255, 255, 127, 1, 'b'})
	wantForm(t, []byte{2, 0, 1, 'a', 255, 255, 255, 255, 127, 255, 255, 255, 255, 127, 'b'})
}

// P7.3: of words at all edges, each beginning told longer than the word ahead is, and shorter than it is, with all bytes of the word behind it.
func TestUnpackBeginningAll(t *testing.T) {
	for _, l := range slices.Concat(edges(), mixed(5)) {
		own := packed(l)
		at, ahead := 1+len(l)/128, ""
		for _, w := range l {
			head, same, tail := own[:at], int(own[at]), own[at+2+int(own[at+1]):]
			for told := range same {
				wantForm(t, slices.Concat(head, []byte{byte(told), byte(len(w) - told)}, []byte(w[told:]), tail))
			}
			for told := len(ahead) + 1; told < 40; told++ {
				wantForm(t, slices.Concat(head, []byte{byte(told)}, own[at+1:]))
			}
			at, ahead = len(own)-len(tail), w
		}
	}
}

// R8: a number that is written longer than need be is read by nothing, wherever it stands.
func TestUnpackLongNumbers(t *testing.T) {
	wantForm(t, []byte{128, 0})
	wantForm(t, []byte{129, 0, 0, 1, 'a'})
	wantForm(t, []byte{1, 128, 0, 1, 'a'})
	wantForm(t, []byte{1, 0, 129, 0, 'a'})
	wantForm(t, []byte{1, 0, 129, 128, 0, 'a'})
	wantForm(t, []byte{2, 0, 1, 'a', 129, 0, 1, 'b'})
	wantForm(t, []byte{2, 0, 1, 'a', 1, 129, 0, 'b'})
	wantForm(t, []byte{128, 128, 128, 128, 0})
	wantForm(t, []byte{128, 128, 128, 128, 128, 0})
	wantForm(t, []byte{255, 255, 255, 255, 255, 127})
	wantForm(t, append([]byte{200, 129, 0}, dict.Pack(numbered(0, 200))[2:]...))
}

// P7.3: words beyond their limits: empty ones, longer ones, ones that are there twice, and ones that fall.
func TestUnpackWords(t *testing.T) {
	wantForm(t, []byte{1, 0, 0})
	wantForm(t, []byte{2, 0, 0, 0, 1, 'a'})
	wantForm(t, []byte{2, 0, 1, 'a', 0, 0})
	wantForm(t, []byte{2, 0, 1, 'a', 1, 0})
	wantForm(t, []byte{2, 0, 2, 'a', 'b', 1, 0})
	wantForm(t, []byte{2, 0, 1, 'a', 0, 1, 'a'})
	wantForm(t, []byte{2, 0, 1, 'b', 0, 1, 'a'})
	wantForm(t, []byte{2, 0, 1, 255, 0, 1, 0})
	wantForm(t, []byte{2, 0, 1, 128, 0, 1, 127})
	wantForm(t, []byte{2, 0, 2, 'a', 'c', 1, 1, 'b'})
	wantForm(t, []byte{3, 0, 1, 'a', 0, 1, 'c', 0, 1, 'b'})
	for _, n := range []int{33, 34, 64, 127} {
		wantForm(t, append([]byte{1, 0, byte(n)}, long(n)...))
	}
	wantForm(t, append([]byte{1, 0, 128, 2}, long(256)...))
	wantForm(t, slices.Concat([]byte{2, 0, 32}, []byte(long(32)), []byte{32, 1, 'a'}))
	wantForm(t, slices.Concat([]byte{2, 0, 1, 'a', 1, 32}, []byte(long(32))))
	wantUnpack(t, slices.Concat([]byte{2, 0, 1, 'a', 1, 31}, []byte(long(31))), []string{"a", long(32)}, api.OK)
	b := []byte{33}
	for i := range 33 {
		b = append(b, byte(i), 1, 'a')
	}
	wantForm(t, b)
	b[0] = 32
	wantUnpack(t, b[:len(b)-3], nested(32), api.OK)
}

// R1: bytes that tell of far more than there is, or of words that double, end soon.
func TestUnpackEnds(t *testing.T) {
	for _, ahead := range [][]byte{{200, 1}, {255, 255, 255, 255, 127}, {1, 0, 255, 255, 3}, {200, 1, 0, 255, 255, 3}} {
		for c := range 256 {
			wantForm(t, slices.Concat(ahead, bytes.Repeat([]byte{byte(c)}, 1<<16)))
		}
	}
}

// P7.3: every short row of few bytes is read as the document's words say, and what is read has just these bytes.
func TestUnpackRows(t *testing.T) {
	read := 0
	var grow func(b []byte)
	grow = func(b []byte) {
		wantRead(t, b)
		if l, e := dict.Unpack(b); e == api.OK {
			read++
			wantPack(t, l, b)
		}
		if len(b) < 7 {
			for _, c := range []byte{0, 1, 2, 3, 'a', 128} {
				grow(append(slices.Clone(b), c))
			}
		}
	}
	grow(nil)
	if read < 100 {
		t.Errorf("just %d rows were read", read)
	}
}

// P7.3: bytes of which one is another one, is dropped, or is there twice; of long rows those near the ends.
func TestUnpackTurned(t *testing.T) {
	for _, l := range slices.Concat(edges(), mixed(20)) {
		b := packed(l)
		for i := range b {
			if len(b) > 150 && i > 5 && i < len(b)-5 {
				continue
			}
			for c := range 256 {
				turned := slices.Clone(b)
				turned[i] = byte(c)
				wantRead(t, turned)
			}
			wantRead(t, slices.Delete(slices.Clone(b), i, i+1))
			for _, c := range []byte{0, 1, 2, 'a', 128, 255, b[i]} {
				wantRead(t, slices.Insert(slices.Clone(b), i, c))
			}
		}
	}
}

// P7.4: unlike words have unlike bytes.
func TestPackedOnce(t *testing.T) {
	seen := map[string][]string{}
	for _, l := range slices.Concat(edges(), mixed(300)) {
		b := string(dict.Pack(l))
		if was, is := seen[b]; is && !slices.Equal(was, l) {
			t.Errorf("%q and %q have the same bytes", was, l)
		}
		seen[b] = l
	}
}

// P7.4: Or hangs neither on the order of lists, nor on how often one is there.
func TestOrOrder(t *testing.T) {
	dice := rand.New(rand.NewSource(74))
	all := slices.Concat(edges(), mixed(30))
	sets := [][][]string{
		{{"b", "d"}, {"a", "b", "e"}, {"d"}, nil},
		{numbered(0, 100), numbered(50, 100), numbered(100, 100), numbered(199, 1)},
		{numbered(0, 100), numbered(50, 100), numbered(100, 100), numbered(200, 1)},
		{{"a"}, {"b", "a"}, numbered(0, 200), numbered(100, 200)},
	}
	for range 100 {
		var set [][]string
		for range 4 {
			l := all[dice.Intn(len(all))]
			from := dice.Intn(len(l) + 1)
			set = append(set, l[from:min(len(l), from+dice.Intn(90))])
		}
		sets = append(sets, set)
	}
	for _, set := range sets {
		want := or(set)
		for n := range 24 {
			order := []int{n % 4, n / 4 % 3, n / 12 % 2, 0}
			left, lists := slices.Clone(set), [][]string{}
			for _, i := range order {
				lists = append(lists, left[i])
				left = slices.Delete(slices.Clone(left), i, i+1)
			}
			wantOr(t, want, lists...)
			wantOr(t, want, slices.Concat(lists, lists)...)
			wantOr(t, want, append(lists, set[n%4], set[n%4])...)
		}
	}
}

// P7.2, P7.4: words of lists that are taken together are as those of all at once, if there are not too many.
func TestOrOfOr(t *testing.T) {
	l := numbered(0, 200)
	a, b, c := l[:90], l[40:150], l[140:]
	wantOr(t, l, dict.Or(a, b), c)
	wantOr(t, l, a, dict.Or(b, c))
	wantOr(t, l, dict.Or(a, b, c))
}

// R3: what is handed in stays, and what lies behind a length is neither read nor changed.
func TestArgumentsStay(t *testing.T) {
	all := []string{"b", "d", "f", "a", "", long(40)}
	rest := []string{"c", "b"}
	lists := [][]string{all[:3], rest[:1], {"b", "a"}, all}
	if !dict.May(all[:3]) || dict.May(all[:4]) {
		t.Error("May reads behind the length")
	}
	wantPlaces(t, all[:2], "f", -1, 2)
	wantOr(t, []string{"b", "c", "d", "f"}, lists[:2]...)
	wantOr(t, nil, lists...)
	wantPack(t, all[:2], []byte{2, 0, 1, 'b', 0, 1, 'd'})
	if !slices.Equal(all, []string{"b", "d", "f", "a", "", long(40)}) || !slices.Equal(rest, []string{"c", "b"}) {
		t.Errorf("words were changed: %q, %q", all, rest)
	}
	if len(lists) != 4 || !slices.Equal(lists[0], all[:3]) || !slices.Equal(lists[1], rest[:1]) || !slices.Equal(lists[3], all) {
		t.Errorf("lists were changed: %q", lists)
	}
	b := []byte{2, 0, 1, 'a', 0, 1, 'b', 1, 0}
	was := slices.Clone(b)
	wantUnpack(t, b[:7], []string{"a", "b"}, api.OK)
	wantUnpack(t, b[:6], nil, api.ErrForm)
	wantUnpack(t, b, nil, api.ErrForm)
	if !bytes.Equal(b, was) {
		t.Errorf("bytes were changed: %v", b)
	}
}

// R3, R5: an answer is the caller's own, and the next one is the same.
func TestAnswersAreNew(t *testing.T) {
	l := []string{"an", "and", "b"}
	lists := [][]string{l, nil}
	for range 3 {
		o := dict.Or(lists...)
		p := dict.Or(l)
		b := dict.Pack(l)
		c := dict.Pack(l)
		u, e := dict.Unpack(b)
		clear(b)
		if !slices.Equal(o, l) || !slices.Equal(p, l) || !slices.Equal(u, l) || e != api.OK || !bytes.Equal(c, packed(l)) {
			t.Errorf("%q, %q, %v, %q, %d", o, p, c, u, e)
		}
		o = append(o, "z")
		clear(o)
		clear(append(p, "z"))
		clear(append(u, "z"))
		clear(append(c, 9))
		if !slices.Equal(l, []string{"an", "and", "b"}) {
			t.Fatalf("the words were changed: %q", l)
		}
	}
}
