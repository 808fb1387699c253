package token_test

import (
	"math"
	"slices"
	"strings"
	"testing"

	"catchword/api"
	"catchword/token"
)

const (
	lastSign  = 0x10ffff
	firstNone = 0xd800 // the signs from here on are none
	lastNone  = 0xdfff
)

// spread are the bytes by which a number would stand as a sign of so many bytes, also where that is not the shortest row, or the number is no sign.
func spread(n, width int) string {
	if width == 1 {
		return string([]byte{byte(n)})
	}
	b := make([]byte, width)
	for i := width - 1; i > 0; i-- {
		b[i] = byte(128 + n%64)
		n /= 64
	}
	b[0] = byte([]int{192, 224, 240}[width-2] + n)
	return string(b)
}

// shortest is how many bytes a number needs.
func shortest(n int) int {
	switch {
	case n < 128:
		return 1
	case n < 1<<11:
		return 2
	case n < 1<<16:
		return 3
	}
	return 4
}

// sign are the bytes of a number, and whether it is a sign.
func sign(n int) (string, bool) {
	return spread(n, shortest(n)), n <= lastSign && (n < firstNone || n > lastNone)
}

// number is what bytes of one sign tell, if they are spread as one.
func number(s string) int {
	n := int(s[0])
	if len(s) > 1 {
		n -= []int{192, 224, 240}[len(s)-2]
	}
	for i := 1; i < len(s); i++ {
		n = n*64 + int(s[i]) - 128
	}
	return n
}

// utf is what Valid must answer: a text is UTF-8, if its first sign is one, and what is behind it is UTF-8.
func utf(s string) bool {
	for s != "" {
		width := 0
		for w := 1; w <= min(4, len(s)); w++ {
			if n := number(s[:w]); n >= 0 {
				if own, is := sign(n); is && own == s[:w] {
					width = w
				}
			}
		}
		if width == 0 {
			return false
		}
		s = s[width:]
	}
	return true
}

// words are those of a text that is UTF-8, found by its bytes: of signs above 127 all bytes are so too.
func words(s string) []string {
	var out []string
	inside := false
	for i := range len(s) {
		c := s[i]
		if c < 128 && !strings.Contains("abcdefghijklmnopqrstuvwxyzABCDEFGHIJKLMNOPQRSTUVWXYZ0123456789", s[i:i+1]) {
			inside = false
			continue
		}
		if at := strings.IndexByte("ABCDEFGHIJKLMNOPQRSTUVWXYZ", c); at >= 0 {
			c = "abcdefghijklmnopqrstuvwxyz"[at]
		}
		if !inside {
			out = append(out, "")
			inside = true
		}
		out[len(out)-1] += string([]byte{c})
	}
	return out
}

// texts are all of at most so many parts.
func texts(most int, parts ...string) []string {
	out := []string{""}
	last := out
	for range most {
		var next []string
		for _, s := range last {
			for _, p := range parts {
				next = append(next, s+p)
			}
		}
		out = append(out, next...)
		last = next
	}
	return out
}

func wantValid(t *testing.T, s string, want bool) {
	t.Helper()
	if got := token.Valid(s); got != want {
		t.Errorf("Valid(%q): %v; want %v", s, got, want)
	}
}

func wantWords(t *testing.T, s string, want []string, e api.Errno) {
	t.Helper()
	if got, gotE := token.Words(s); !slices.Equal(got, want) || gotE != e {
		t.Errorf("Words(%q): %q, %d; want %q, %d", s, got, gotE, want, e)
	}
}

func wantTerm(t *testing.T, w string, want bool) {
	t.Helper()
	if got := token.Term(w); got != want {
		t.Errorf("Term(%q): %v; want %v", w, got, want)
	}
}

func wantCard(t *testing.T, id string, key int, text string, want api.Card, e api.Errno) {
	t.Helper()
	got, gotE := token.Card(id, key, text)
	if got.Id != want.Id || got.Key != want.Key || !slices.Equal(got.W, want.W) || gotE != e {
		t.Errorf("Card(%q, %d, %q): %v, %d; want %v, %d", id, key, text, got, gotE, want, e)
	}
}

// P5.1: the least and the greatest sign of each width, and those beside the ones that are none.
func TestValidEdges(t *testing.T) {
	for _, s := range []string{
		"",
		"\x00", "\x7f",
		"\xc2\x80", "\xdf\xbf",
		"\xe0\xa0\x80", "\xef\xbf\xbf",
		"\xed\x9f\xbf", "\xee\x80\x80",
		"\xf0\x90\x80\x80", "\xf4\x8f\xbf\xbf",
		"\xef\xbf\xbd",
		"\xef\xbf\xbc\xef\xbf\xbe",
		"\xef\xbf\xbd\xef\xbf\xbd",
		"a\xef\xbf\xbd", "\xef\xbf\xbdb", "a\xef\xbf\xbdb",
	} {
		wantValid(t, s, true)
		wantValid(t, "x"+s+"\xc3\xa9"+s, true)
	}
}

// P5.1: rows that are not the shortest, signs that are none, ones beyond the last, ones that are cut off, and bytes that begin none.
func TestValidFaults(t *testing.T) {
	for _, s := range []string{
		"\xc0\x80", "\xc0\xaf", "\xc1\xbf",
		"\xe0\x80\x80", "\xe0\x81\xbf", "\xe0\x9f\xbf",
		"\xf0\x80\x80\x80", "\xf0\x8f\xbf\xbf",
		"\xf0\x8f\xbf\xbd", // fffd, not by its shortest row
		"\xed\xa0\x80", "\xed\xad\xbf", "\xed\xae\x80", "\xed\xbf\xbf",
		"\xed\xa0\x80\xed\xb0\x80", // two that are none make no sign together
		"\xf4\x90\x80\x80", "\xf4\xbf\xbf\xbf", "\xf5\x80\x80\x80", "\xf7\xbf\xbf\xbf",
		"\xf8\x88\x80\x80\x80", "\xfc\x84\x80\x80\x80\x80",
		"\xc2", "\xdf", "\xe0", "\xe0\xa0", "\xef\xbf", "\xf0", "\xf0\x90", "\xf0\x90\x80", "\xf4\x8f\xbf",
		"\x80", "\xbf", "\xbd", "\xf8", "\xfe", "\xff",
		"\xc2\xc2\x80", "\xe0\xa0\xe0\xa0\x80", "\xc3a", "\xe6\x97a", "\xf0\x9f\x98a",
	} {
		for _, front := range []string{"", "a", "\xc3\xa9", "\xef\xbf\xbd", "\xf0\x9f\x98\x80"} {
			for _, back := range []string{"", "a", " ", "\xc3\xa9", "\xef\xbf\xbd", "\xf0\x9f\x98\x80"} {
				wantValid(t, front+s+back, false)
				wantWords(t, front+s+back, nil, api.ErrUtf)
				wantTerm(t, front+s+back, false)
			}
		}
	}
}

// P5.1: each number is a sign by its shortest row, if it is one, and by no longer row; cut off it is none.
func TestValidSigns(t *testing.T) {
	for n := range 1 << 21 {
		own, is := sign(n)
		if token.Valid(own) != is {
			t.Fatalf("%x: Valid(%q): %v", n, own, !is)
		}
		for width := shortest(n) + 1; width <= 4; width++ {
			if s := spread(n, width); token.Valid(s) {
				t.Fatalf("%x: Valid(%q)", n, s)
			}
		}
		for cut := 1; cut < len(own); cut++ {
			if token.Valid(own[:cut]) || token.Valid(own[cut:]) {
				t.Fatalf("%x: Valid(%q) or Valid(%q)", n, own[:cut], own[cut:])
			}
		}
	}
}

// P5.1: every row of at most two bytes, and rows of up to four of the bytes at whose neighbours something else begins.
func TestValidRows(t *testing.T) {
	for first := range 256 {
		one := string([]byte{byte(first)})
		wantValid(t, one, utf(one))
		for second := range 256 {
			two := one + string([]byte{byte(second)})
			wantValid(t, two, utf(two))
		}
	}
	var parts []string
	for _, c := range []byte{0, 0x7f, 0x80, 0x8f, 0x90, 0x9f, 0xa0, 0xbd, 0xbf, 0xc0, 0xc1, 0xc2, 0xdf, 0xe0, 0xe1, 0xec, 0xed, 0xee, 0xef, 0xf0, 0xf1, 0xf3, 0xf4, 0xf5, 0xf7, 0xf8, 0xff} {
		parts = append(parts, string([]byte{c}))
	}
	for _, s := range texts(4, parts...) {
		wantValid(t, s, utf(s))
	}
	for _, s := range texts(7, "\xef", "\xbf", "\xbd", "a") {
		wantValid(t, s, utf(s))
	}
}

// P5.1: a text of any length may be UTF-8; a fault at its very end is one.
func TestValidLong(t *testing.T) {
	for _, part := range []string{"a", "\xc3\xa9", "\xe6\x97\xa5", "\xf0\x9f\x98\x80", "\xef\xbf\xbd"} {
		long := strings.Repeat(part, 3000)
		wantValid(t, long, true)
		wantValid(t, long+"\xff", false)
		wantValid(t, long+"\xe6\x97", false)
		wantValid(t, "\xff"+long, false)
		wantValid(t, long+"\xed\xa0\x80"+long, false)
	}
}

// P5.1: words of ordinary texts.
func TestWords(t *testing.T) {
	for _, c := range []struct {
		s string
		l []string
	}{
		{"", nil},
		{" ", nil},
		{"-_,.!\n\t\x00\x7f", nil},
		{"A-bc, 1", []string{"a", "bc", "1"}},
		{"the Cat and THE cat", []string{"the", "cat", "and", "the", "cat"}},
		{"a", []string{"a"}},
		{" a", []string{"a"}},
		{"a ", []string{"a"}},
		{"--a--b--", []string{"a", "b"}},
		{"9Lives2 0", []string{"9lives2", "0"}},
		{"snake_case don't x+y a.b", []string{"snake", "case", "don", "t", "x", "y", "a", "b"}},
		{"na\u00efve \u00c9COLE", []string{"na\u00efve", "\u00c9cole"}},
		{"\u65e5\u672c\u3000\u8a9e", []string{"\u65e5\u672c\u3000\u8a9e"}}, // a wide blank is above 127
		{"a\u00a0b\u0085c\u2014d", []string{"a\u00a0b\u0085c\u2014d"}},
		{"\u0130 \u212a \u01c4", []string{"\u0130", "\u212a", "\u01c4"}},
		{"\U0001f600!\U0001f600", []string{"\U0001f600", "\U0001f600"}},
		{"\ufffd", []string{"\ufffd"}},
		{"A\ufffdB \ufffd", []string{"a\ufffdb", "\ufffd"}},
	} {
		wantWords(t, c.s, c.l, api.OK)
	}
}

// P5.1: of the signs below 128 just letters and digits are of words, and just A to Z become others; all above are, and stay.
func TestWordsOfSigns(t *testing.T) {
	for n := range 128 {
		s := string([]byte{byte(n)})
		wantWords(t, s, words(s), api.OK)
		wantWords(t, "x"+s+"Y", words("x"+s+"Y"), api.OK)
		is := strings.Contains("abcdefghijklmnopqrstuvwxyz0123456789", s)
		wantTerm(t, s, is)
		wantTerm(t, "x"+s+"9", is)
	}
	for n := 128; n <= lastSign; n++ {
		own, is := sign(n)
		if !is {
			continue
		}
		if l, e := token.Words(own); e != api.OK || len(l) != 1 || l[0] != own {
			t.Fatalf("%x: Words(%q): %q, %d", n, own, l, e)
		}
	}
}

// P5.1: words of all short texts, those that are not UTF-8 too.
func TestWordsOfShortTexts(t *testing.T) {
	for _, s := range texts(6, "a", "Z", "0", "-", " ", "\u00c9", "\ufffd") {
		wantWords(t, s, words(s), api.OK)
		l := words(s)
		wantTerm(t, s, len(l) == 1 && l[0] == s)
	}
	for _, s := range texts(6, "b", "Q", ".", "\xc3", "\xa9") {
		if utf(s) {
			wantWords(t, s, words(s), api.OK)
		} else {
			wantWords(t, s, nil, api.ErrUtf)
		}
	}
}

// P5.1: a text has at most 240 bytes, however many signs these are.
func TestWordsLength(t *testing.T) {
	pairs := strings.Repeat("a ", 120)
	wantWords(t, pairs, slices.Repeat([]string{"a"}, 120), api.OK)
	wantWords(t, pairs+" ", nil, api.ErrLimit)
	wantWords(t, strings.Repeat(" ", 240), nil, api.OK)
	wantWords(t, strings.Repeat(" ", 241), nil, api.ErrLimit)
	wantWords(t, strings.Repeat(" ", 100000), nil, api.ErrLimit)
	wantWords(t, strings.Repeat("\u00e9 ", 80), slices.Repeat([]string{"\u00e9"}, 80), api.OK)
	wantWords(t, strings.Repeat("\u00e9 ", 80)+" ", nil, api.ErrLimit)
	wantWords(t, strings.Repeat("\U0001f600", 61), nil, api.ErrLimit)
	wantTerm(t, strings.Repeat("a", 241), false)
}

// P5.1: a word has at most 32 bytes, however many signs these are, and wherever it stands.
func TestWordsTooLong(t *testing.T) {
	for _, w := range []string{
		strings.Repeat("a", 32),
		strings.Repeat("9", 32),
		strings.Repeat("\u00e9", 16),
		strings.Repeat("\u65e5", 10) + "ab",
		strings.Repeat("\U0001f600", 8),
		strings.Repeat("\ufffd", 10) + "\u00e9",
	} {
		wantWords(t, w, []string{w}, api.OK)
		wantTerm(t, w, true)
		wantWords(t, w+"-"+w, []string{w, w}, api.OK)
		wantWords(t, "x "+w+" y", []string{"x", w, "y"}, api.OK)
		for _, longer := range []string{w + "b", "b" + w, w + "\u00e9", w + w} {
			wantTerm(t, longer, false)
			for _, s := range []string{longer, "x " + longer, longer + " y", "x " + longer + " y", w + " " + longer} {
				wantWords(t, s, nil, api.ErrLimit)
			}
		}
	}
	wantWords(t, strings.Repeat("A", 32), []string{strings.Repeat("a", 32)}, api.OK)
	wantWords(t, strings.Repeat("A", 33), nil, api.ErrLimit)
	wantTerm(t, strings.Repeat("A", 32), false)
}

// P5.1, R2: more than 240 bytes are told ahead of bytes that are no UTF-8, these ahead of a word that is too long.
func TestWordsWhichError(t *testing.T) {
	long := strings.Repeat("a", 33)
	wantWords(t, strings.Repeat("\xff", 240), nil, api.ErrUtf)
	wantWords(t, strings.Repeat("\xff", 241), nil, api.ErrLimit)
	wantWords(t, strings.Repeat(" ", 239)+"\xff", nil, api.ErrUtf)
	wantWords(t, strings.Repeat(" ", 240)+"\xff", nil, api.ErrLimit)
	wantWords(t, "\xff"+strings.Repeat(" ", 240), nil, api.ErrLimit)
	wantWords(t, strings.Repeat("\u00e9", 120)+"\xc3", nil, api.ErrLimit)
	for _, s := range []string{long + "\xff", "\xff" + long, long + " \xff", "\xff " + long, long + " \xed\xa0\x80 " + long} {
		wantWords(t, s, nil, api.ErrUtf)
	}
	wantWords(t, long+strings.Repeat(" ", 207), nil, api.ErrLimit)
	wantWords(t, long+strings.Repeat(" ", 206)+"\xff", nil, api.ErrUtf)
	wantWords(t, long+strings.Repeat(" ", 207)+"\xff", nil, api.ErrLimit)
}

// P5.1: a Term is the one word of itself.
func TestTerm(t *testing.T) {
	for _, w := range []string{"a", "z", "0", "9", "abc", "a1b2", "007", "\u00e9", "\u00c9", "\ufffd", "\U0010ffff", "\u0080", "x\u00a0y"} {
		wantTerm(t, w, true)
	}
	for _, w := range []string{"", " ", "-", "A", "Z", "aB", "Ab", "a b", " a", "a ", "a-", "-a", "a-b", "a\x00", "a\n", "\u00c9A", "\xff", "a\xff", "\xc3"} {
		wantTerm(t, w, false)
	}
}

// P5.2: the card has the id as it is, the key, and the words.
func TestCard(t *testing.T) {
	for _, c := range []struct {
		id   string
		key  int
		text string
		w    []string
	}{
		{"x", 5, "A b", []string{"a", "b"}},
		{"x", 0, "", nil},
		{"x", 1, " ,", nil},
		{"0123456789abcdef", 1 << 30, "b B b", []string{"b", "b", "b"}},
		{"Id No. 1", 1<<30 - 1, "A-bc, 1", []string{"a", "bc", "1"}},
		{"\x00", 7, "\ufffd", []string{"\ufffd"}},
		{" ", 7, "q", []string{"q"}},
		{"\ufffd", 7, "q", []string{"q"}},
		{strings.Repeat("\u00e9", 8), 7, "q", []string{"q"}},
		{strings.Repeat("\U0001f600", 4), 7, strings.Repeat("Q", 32), []string{strings.Repeat("q", 32)}},
		{"x", 7, strings.Repeat("Q ", 120), slices.Repeat([]string{"q"}, 120)},
	} {
		wantCard(t, c.id, c.key, c.text, api.Card{Id: c.id, Key: c.key, W: c.w}, api.OK)
	}
	for n := range 18 {
		id := strings.Repeat("i", n)
		if n >= 1 && n <= 16 {
			wantCard(t, id, n, "t", api.Card{Id: id, Key: n, W: []string{"t"}}, api.OK)
		} else {
			wantCard(t, id, n, "t", api.Card{}, api.ErrArg)
		}
	}
}

// texts that have no words, by their errors.
var wrongTexts = []struct {
	text string
	e    api.Errno
}{
	{"\xff", api.ErrUtf},
	{"a \xed\xa0\x80", api.ErrUtf},
	{strings.Repeat("\xff", 240), api.ErrUtf},
	{strings.Repeat("\xff", 241), api.ErrLimit},
	{strings.Repeat(" ", 241), api.ErrLimit},
	{strings.Repeat("a", 33), api.ErrLimit},
	{strings.Repeat("a", 33) + "\xff", api.ErrUtf},
}

// P5.2: an id of another length, counted by bytes, or a key that may not be, is told ahead of all else.
func TestCardArg(t *testing.T) {
	bad := []string{"", "0123456789abcdefg", strings.Repeat("i", 1000), strings.Repeat("\u00e9", 8) + "i", strings.Repeat("\u00e9", 9), strings.Repeat("\u65e5", 6), strings.Repeat("\xff", 17)}
	good := []string{"i", "0123456789abcdef", "\xff", strings.Repeat("\xff", 16)}
	below := []int{-1, -2, math.MinInt32, math.MinInt, -1 << 32}
	above := []int{1<<30 + 1, 1<<30 + 2, 1 << 31, 1 << 32, 1<<32 + 5, 1 << 62, math.MaxInt}
	all := []string{"t", ""}
	for _, c := range wrongTexts {
		all = append(all, c.text)
	}
	for _, text := range all {
		for _, id := range bad {
			for _, key := range slices.Concat([]int{0, 1, 1 << 30}, below, above) {
				wantCard(t, id, key, text, api.Card{}, api.ErrArg)
			}
		}
		for _, id := range good {
			for _, key := range slices.Concat(below, above) {
				wantCard(t, id, key, text, api.Card{}, api.ErrArg)
			}
		}
	}
}

// P5.2: an id that is not UTF-8 is told ahead of what is wrong of the text, and that as Words tells it.
func TestCardWhichError(t *testing.T) {
	for _, id := range []string{"\xff", "\x80", "i\xc3", "\xc0\x80", "\xed\xa0\x80", "\xf4\x90\x80\x80", "\xe0\x9f\xbf", "0123456789abcde\xc3", strings.Repeat("\xff", 16)} {
		for _, text := range []string{"t", "", strings.Repeat(" ", 241), strings.Repeat("a", 33), "\xff"} {
			wantCard(t, id, 0, text, api.Card{}, api.ErrUtf)
			wantCard(t, id, 1<<30, text, api.Card{}, api.ErrUtf)
		}
	}
	for _, c := range wrongTexts {
		for _, id := range []string{"i", "\ufffd", "0123456789abcdef"} {
			wantCard(t, id, 0, c.text, api.Card{}, c.e)
			wantCard(t, id, 1<<30, c.text, api.Card{}, c.e)
		}
	}
}

// P5.3: a word of a text is a Term.
func TestWordsAreTerms(t *testing.T) {
	for _, s := range append(texts(5, "a", "Z", "0", "-", "\u00c9", "\ufffd"), strings.Repeat("Q", 32), strings.Repeat("\u00c9", 16)+" "+strings.Repeat("9", 32)) {
		l, e := token.Words(s)
		if e != api.OK {
			t.Errorf("Words(%q): %d", s, e)
		}
		for _, w := range l {
			wantTerm(t, w, true)
		}
	}
}

// P5.3: with a blank between two texts the words are those of both; a sign that is cut off does not go on behind it.
func TestBlankBetween(t *testing.T) {
	halves := append(texts(3, "a", "Z", "-", " ", "\u00c9"), strings.Repeat("B", 32), strings.Repeat("c ", 59)+"c")
	for _, a := range halves {
		for _, b := range halves {
			first, _ := token.Words(a)
			second, _ := token.Words(b)
			wantWords(t, a+" "+b, slices.Concat(first, second), api.OK)
		}
	}
	full := strings.Repeat("c ", 60)
	wantWords(t, full[:119]+" "+full, slices.Repeat([]string{"c"}, 120), api.OK)
	wantWords(t, full+" "+full, nil, api.ErrLimit)
	for _, cut := range [][2]string{{"\xc3", "\xa9"}, {"\xe6\x97", "\xa5"}, {"a\xff", "b"}, {"a", "\xff"}} {
		wantWords(t, cut[0]+" "+cut[1], nil, api.ErrUtf)
	}
	wantWords(t, strings.Repeat("a", 33)+" b", nil, api.ErrLimit)
	wantWords(t, "b "+strings.Repeat("a", 33), nil, api.ErrLimit)
}

// The document's example.
func TestExample(t *testing.T) {
	wantWords(t, "A-bc, 1", []string{"a", "bc", "1"}, api.OK)
}

// R3, R5: a list that was answered is the caller's own, and the next answer is the same.
func TestAnswersAreNew(t *testing.T) {
	const text = "One two three two"
	want := []string{"one", "two", "three", "two"}
	for range 3 {
		l, _ := token.Words(text)
		card, _ := token.Card("i", 3, text)
		clear(l[:cap(l)])
		if !slices.Equal(card.W, want) {
			t.Errorf("the card's words were changed: %q", card.W)
		}
		clear(card.W[:cap(card.W)])
		wantWords(t, text, want, api.OK)
		wantCard(t, "i", 3, text, api.Card{Id: "i", Key: 3, W: want}, api.OK)
	}
}

// P1, R1, R4: whatever bytes there are, a call ends, and beside an error all else is zero.
func FuzzToken(f *testing.F) {
	f.Add("i", 0, "A-bc, 1")
	f.Add("\xff", 1<<30, "a\xed\xa0\x80")
	f.Add("", -1, strings.Repeat("\ufffd", 80))
	f.Fuzz(func(t *testing.T, id string, key int, text string) {
		wantValid(t, text, utf(text))
		l, e := token.Words(text)
		if e != api.OK && len(l) > 0 || e == api.OK && !slices.Equal(l, words(text)) {
			t.Errorf("Words(%q): %q, %d", text, l, e)
		}
		for _, w := range l {
			wantTerm(t, w, true)
		}
		card, e := token.Card(id, key, text)
		if e != api.OK && (card.Id != "" || card.Key != 0 || len(card.W) > 0) || e == api.OK && (card.Id != id || card.Key != key || !slices.Equal(card.W, l)) {
			t.Errorf("Card(%q, %d, %q): %v, %d", id, key, text, card, e)
		}
	})
}
