package remap_test

import (
	"math"
	"math/rand"
	"slices"
	"strconv"
	"strings"
	"testing"

	"catchword/live"
	"catchword/remap"
)

// of is the list that a text tells of: by an x a document that lives, by a dot one that is dead.
func of(text string) []bool {
	l := make([]bool, len(text))
	for i := range l {
		l[i] = text[i] == 'x'
	}
	return l
}

// ofAll are the lists of texts.
func ofAll(texts ...string) [][]bool {
	var out [][]bool
	for _, text := range texts {
		out = append(out, of(text))
	}
	return out
}

// show is the text of a list.
func show(l []bool) string {
	s := ""
	for _, lives := range l {
		if lives {
			s += "x"
		} else {
			s += "."
		}
	}
	return s
}

// short are all lists of at most that many documents.
func short(most int) [][]bool {
	out := [][]bool{nil}
	for i := 0; len(out[i]) < most; i++ {
		out = append(out, append(slices.Clone(out[i]), false), append(slices.Clone(out[i]), true))
	}
	return out
}

// lists are short ones, and long ones: nobody lives, all live, only the first or the last, or all but it, and mixed.
func lists() [][]bool {
	out := append(short(6), []bool{})
	for _, n := range []int{1, 2, 7, 8, 9, 31, 32, 33, 62, 63, 64} {
		out = append(out, of(strings.Repeat(".", n)), of(strings.Repeat("x", n)), of("x"+strings.Repeat(".", n-1)), of(strings.Repeat(".", n-1)+"x"))
		out = append(out, of("."+strings.Repeat("x", n-1)), of(strings.Repeat("x", n-1)+"."), of(strings.Repeat("x..x.xx", 10)[:n]))
	}
	return out
}

// numbers are those from 0 to n - 1, in order.
func numbers(n int) []int {
	l := make([]int, n)
	for i := range l {
		l[i] = i
	}
	return l
}

// same is a list of n times the same.
func same[T any](n int, v T) []T {
	l := make([]T, n)
	for i := range l {
		l[i] = v
	}
	return l
}

// unlike are n ids, which fall where they are held against one another byte by byte.
func unlike(n int) []string {
	l := make([]string, n)
	for i := range l {
		l[i] = string([]byte{byte(255 - i/256), byte(255 - i%256)})
	}
	return l
}

func wantTable(t *testing.T, l []bool, from int, want ...int) {
	t.Helper()
	if got := remap.Table(l, from); !slices.Equal(got, want) {
		t.Errorf("Table(%s, %d): %v; want %v", show(l), from, got, want)
	}
}

func wantOrder(t *testing.T, keys []int, ids []string, want ...int) {
	t.Helper()
	if got := remap.Order(keys, ids); !slices.Equal(got, want) {
		t.Errorf("Order(%v, %q): %v; want %v", keys, ids, got, want)
	}
}

func wantTurn(t *testing.T, p []int, want ...int) {
	t.Helper()
	if got := remap.Turn(p); !slices.Equal(got, want) {
		t.Errorf("Turn(%v): %v; want %v", p, got, want)
	}
}

func wantThen(t *testing.T, first, p []int, want ...int) {
	t.Helper()
	if got := remap.Then(first, p); !slices.Equal(got, want) {
		t.Errorf("Then(%v, %v): %v; want %v", first, p, got, want)
	}
}

func wantCarry(t *testing.T, n int, tables [][]int, was, now [][]bool, want string) {
	t.Helper()
	if got := remap.Carry(n, tables, was, now); show(got) != want {
		t.Errorf("Carry(%d, %v, %v, %v): %s; want %s", n, tables, was, now, show(got), want)
	}
}

// tabled is what Table must answer of what may be: how many live ahead of each that lives, and from.
func tabled(l []bool, from int) []int {
	var out []int
	for i := range l {
		if l[i] {
			out = append(out, from+strings.Count(show(l[:i]), "x"))
		} else {
			out = append(out, -1)
		}
	}
	return out
}

// P10.1: those that live get from, and so on, in order; the others get none.
func TestTable(t *testing.T) {
	wantTable(t, of("x.x"), 5, 5, -1, 6)
	wantTable(t, nil, 0)
	wantTable(t, nil, 1100)
	wantTable(t, of("x"), 0, 0)
	wantTable(t, of("."), 0, -1)
	wantTable(t, of("x"), 1100, 1100)
	wantTable(t, of("xx"), 1100, 1100, 1101)
	wantTable(t, of("..x"), 7, -1, -1, 7)
	wantTable(t, of("x.."), 7, 7, -1, -1)
	wantTable(t, of("...."), 7, -1, -1, -1, -1)
	wantTable(t, of("xxxx"), 0, 0, 1, 2, 3)
	for _, l := range lists() {
		for _, from := range []int{0, 1, 2, 5, 63, 64, 65, 128, 1035, 1036, 1037, 1099, 1100} {
			wantTable(t, l, from, tabled(l, from)...)
		}
	}
	for from := range 1101 {
		wantTable(t, of(".x.xx"), from, -1, from, -1, from+1, from+2)
	}
}

// P10.1: nothing is told of a list that may not be, whoever lives.
func TestTableOfTooMany(t *testing.T) {
	for _, n := range []int{65, 66, 128, 1100, 1101, 2000} {
		for _, l := range [][]bool{same(n, true), same(n, false), of(strings.Repeat("x..x.xx", 300)[:n])} {
			for _, from := range []int{-1, 0, 1, 1036, 1100, 1101} {
				wantTable(t, l, from)
			}
		}
	}
}

// P10.1: nothing is told from a place that is less than 0 or more than 1100.
func TestTableFromNowhere(t *testing.T) {
	for _, from := range []int{-1, -2, -1100, math.MinInt, math.MinInt + 1, 1101, 1102, 2000, 1 << 32, math.MaxInt - 1, math.MaxInt} {
		for _, l := range lists() {
			wantTable(t, l, from)
		}
	}
}

// P10.1: a table behind another one, from where that ended, goes on with the places.
func TestTablesGoOn(t *testing.T) {
	from := 0
	var got []int
	for _, l := range lists()[:120] {
		for _, place := range remap.Table(l, from) {
			if place != -1 {
				got = append(got, place)
			}
		}
		from += live.Count(l)
	}
	if from > 1100 || !slices.Equal(got, numbers(from)) {
		t.Errorf("%d: %v", from, got)
	}
}

// less tells whether a is below b, byte by byte.
func less(a, b string) bool {
	for i := 0; i < len(a) && i < len(b); i++ {
		if a[i] != b[i] {
			return a[i] < b[i]
		}
	}
	return len(a) < len(b)
}

// ahead tells whether the place i comes ahead of the place j.
func ahead(keys []int, ids []string, i, j int) bool {
	if keys[i] != keys[j] {
		return keys[i] < keys[j]
	}
	if ids[i] != ids[j] {
		return less(ids[i], ids[j])
	}
	return i < j
}

// ordered is what Order must answer: each place stands behind as many as come ahead of it.
func ordered(keys []int, ids []string) []int {
	out := make([]int, len(keys))
	for i := range keys {
		many := 0
		for j := range keys {
			if ahead(keys, ids, j, i) {
				many++
			}
		}
		out[many] = i
	}
	return out
}

// P10.2: by the keys, of the same key by the ids, of the same id by the places.
func TestOrder(t *testing.T) {
	wantOrder(t, []int{7, 3, 7}, []string{"b", "a", "a"}, 1, 2, 0)
	wantOrder(t, nil, nil)
	wantOrder(t, []int{}, nil)
	wantOrder(t, nil, []string{})
	wantOrder(t, []int{5}, []string{"x"}, 0)
	wantOrder(t, []int{5}, []string{""}, 0)
	wantOrder(t, []int{1, 2, 3}, []string{"c", "b", "a"}, 0, 1, 2)
	wantOrder(t, []int{3, 2, 1}, []string{"a", "b", "c"}, 2, 1, 0)
	wantOrder(t, []int{4, 4, 4}, []string{"c", "b", "a"}, 2, 1, 0)
	wantOrder(t, []int{4, 4, 4}, []string{"a", "a", "a"}, 0, 1, 2)
	wantOrder(t, []int{4, 4, 4}, []string{"", "", ""}, 0, 1, 2)
	wantOrder(t, []int{2, 1, 2, 1, 2, 1}, []string{"b", "b", "a", "b", "b", "a"}, 5, 1, 3, 2, 0, 4)
	wantOrder(t, []int{9, 9, 1, 9}, []string{"x", "w", "x", "x"}, 2, 1, 0, 3)
}

// P10.2: keys that are less than 0, the least and the greatest number are held against each other as any.
func TestOrderOfKeys(t *testing.T) {
	wantOrder(t, []int{math.MaxInt, math.MinInt}, []string{"a", "b"}, 1, 0)
	wantOrder(t, []int{math.MinInt, math.MaxInt}, []string{"b", "a"}, 0, 1)
	wantOrder(t, []int{0, -1, 1, -1}, []string{"a", "b", "a", "a"}, 3, 1, 0, 2)
	wantOrder(t, []int{math.MaxInt, 0, math.MinInt, -1, 1, math.MinInt + 1, math.MaxInt - 1, math.MinInt, math.MaxInt}, same(9, "x"), 2, 7, 5, 3, 1, 4, 6, 0, 8)
	wantOrder(t, []int{1 << 32, 1, 1 << 31, 1 << 30, -1 << 31, -1 << 32}, same(6, "x"), 5, 4, 1, 3, 2, 0)
	wantOrder(t, []int{1<<53 + 1, 1 << 53, 1<<53 - 1}, same(3, "x"), 2, 1, 0)
	keys := []int{math.MinInt, math.MinInt + 1, -1 << 62, -1 << 32, -300, -1, 0, 1, 300, 1 << 30, 1 << 32, 1 << 62, math.MaxInt - 1, math.MaxInt}
	for i, a := range keys {
		for j, b := range keys {
			if i < j {
				wantOrder(t, []int{a, b}, []string{"b", "a"}, 0, 1)
				wantOrder(t, []int{b, a}, []string{"a", "b"}, 1, 0)
			}
		}
	}
}

// rising are ids, each above the one ahead byte by byte: empty, one that begins the other, bytes of 0, 127, 128 and 255.
func rising() []string {
	return []string{
		"", "\x00", "\x00\x00", "\x00\x01", "\x00\xff", "\x01", " ", "0", "10", "9", "A", "B", "Z", "a", "a\x00", "a\x00b", "a\x01", "aA", "aa", "aaa", "ab", "a\x7f", "a\x80", "a\xff", "b", "ba",
		"\x7e", "\x7f", "\x7f\x80", "\x80", "\x80\x7f", "\xc3", "\xc3\xa9", "\xc3\xa9a", "\xf0\x9f\x98\x80", "\xff", "\xff\x00", "\xff\xfe", "\xff\xff",
		"\xff\xff" + strings.Repeat("\x00", 2000), "\xff\xff" + strings.Repeat("\x00", 2001),
	}
}

// P10.2: ids are held against each other byte by byte; one that begins another is below it; the key goes ahead of them.
func TestOrderOfIds(t *testing.T) {
	ids := rising()
	for i, a := range ids {
		for j, b := range ids {
			first, second := 0, 1
			if j < i {
				first, second = 1, 0
			}
			wantOrder(t, []int{7, 7}, []string{a, b}, first, second)
			wantOrder(t, []int{-7, -6}, []string{a, b}, 0, 1)
			wantOrder(t, []int{-6, -7}, []string{a, b}, 1, 0)
		}
	}
	wantOrder(t, same(len(ids), 0), ids, numbers(len(ids))...)
	slices.Reverse(ids)
	falling := numbers(len(ids))
	slices.Reverse(falling)
	wantOrder(t, same(len(ids), 0), ids, falling...)
}

// P10.2: all short lists of few keys and ids are put in order as the words say.
func TestOrderOfAllShort(t *testing.T) {
	few := []string{"", "a", "ab"}
	for n := range 5 {
		all := 1
		for range n {
			all *= 9
		}
		for code := range all {
			var keys []int
			var ids []string
			for rest, k := code, 0; k < n; k++ {
				keys, ids = append(keys, rest%3-1), append(ids, few[rest/3%3])
				rest /= 9
			}
			wantOrder(t, keys, ids, ordered(keys, ids)...)
		}
	}
}

// P10.2: so are lists that happen to be, up to 1100, with the same keys and ids at several places.
func TestOrderOfMixed(t *testing.T) {
	dice := rand.New(rand.NewSource(10))
	for _, n := range []int{2, 3, 5, 12, 13, 20, 49, 50, 51, 64, 65, 300, 1099, 1100} {
		for _, most := range []int{1, 2, 5, 40, 5000} {
			keys, ids := make([]int, n), make([]string, n)
			for i := range n {
				keys[i], ids[i] = dice.Intn(most)-most/2, strconv.Itoa(dice.Intn(most))
			}
			wantOrder(t, keys, ids, ordered(keys, ids)...)
		}
	}
}

// P10.2: 1100 are put in order, rising, falling or all the same; of 1101 nothing is told.
func TestOrderOfMany(t *testing.T) {
	for _, n := range []int{1099, 1100} {
		falling := numbers(n)
		slices.Reverse(falling)
		wantOrder(t, numbers(n), unlike(n), numbers(n)...)
		wantOrder(t, falling, unlike(n), falling...)
		wantOrder(t, same(n, 4), same(n, "x"), numbers(n)...)
		wantOrder(t, same(n, 4), unlike(n), falling...)
	}
	for _, n := range []int{1101, 1102, 2000, 5000} {
		wantOrder(t, numbers(n), unlike(n))
		wantOrder(t, same(n, 0), same(n, ""))
	}
}

// P10.2: nothing is told, if there are fewer or more ids than keys.
func TestOrderOfUnlikeMany(t *testing.T) {
	sizes := []int{0, 1, 2, 3, 64, 65, 1099, 1100, 1101, 1102}
	for _, n := range sizes {
		for _, m := range sizes {
			if n != m {
				wantOrder(t, numbers(n), unlike(m))
			}
		}
	}
	wantOrder(t, nil, []string{""})
	wantOrder(t, []int{0}, nil)
}

// perms are all orders of n things.
func perms(n int) [][]int {
	if n == 0 {
		return [][]int{{}}
	}
	var out [][]int
	for _, p := range perms(n - 1) {
		for at := range n {
			out = append(out, slices.Insert(slices.Clone(p), at, n-1))
		}
	}
	return out
}

// orders are all of few things, and some of many.
func orders() [][]int {
	var out [][]int
	for n := range 7 {
		out = append(out, perms(n)...)
	}
	dice := rand.New(rand.NewSource(11))
	for _, n := range []int{7, 63, 64, 65, 500, 1099, 1100} {
		falling := numbers(n)
		slices.Reverse(falling)
		out = append(out, numbers(n), falling, dice.Perm(n), append(numbers(n)[1:], 0))
	}
	return out
}

// turned is what Turn must answer of an order.
func turned(p []int) []int {
	var out []int
	for n := range p {
		out = append(out, slices.Index(p, n))
	}
	return out
}

// P10.2: of each number is told where it stands.
func TestTurn(t *testing.T) {
	wantTurn(t, []int{1, 2, 0}, 2, 0, 1)
	wantTurn(t, []int{3, 1, 2, 4, 0}, 4, 1, 2, 0, 3)
	wantTurn(t, nil)
	wantTurn(t, []int{0}, 0)
	wantTurn(t, []int{1, 0}, 1, 0)
	for _, p := range orders() {
		wantTurn(t, p, turned(p)...)
	}
}

// P10.2: of lists that are no order nothing is told: all of few numbers, the right ones among them or not.
func TestTurnOfAllShort(t *testing.T) {
	for n := 1; n < 6; n++ {
		all := 1
		for range n {
			all *= n + 2
		}
		for code := range all {
			var p []int
			for rest, k := code, 0; k < n; k++ {
				p = append(p, rest%(n+2)-1)
				rest /= n + 2
			}
			sorted := slices.Clone(p)
			slices.Sort(sorted)
			if slices.Equal(sorted, numbers(n)) {
				wantTurn(t, p, turned(p)...)
			} else {
				wantTurn(t, p)
			}
		}
	}
}

// P10.2: a number twice, one that is missing, less than 0, or as great as how many there are, at any place, is in no order.
func TestTurnOfWrong(t *testing.T) {
	for _, n := range []int{1, 2, 3, 64, 1100} {
		for at := range n {
			for _, wrong := range []int{-1, -2, -n, math.MinInt, n, n + 1, 1101, 1 << 32, math.MaxInt, (at + 1) % n, (at + n - 1) % n} {
				p := numbers(n)
				p[at] = wrong
				if wrong != at {
					wantTurn(t, p)
				}
			}
		}
	}
	wantTurn(t, []int{0, 0})
	wantTurn(t, []int{1})
	wantTurn(t, []int{1, 2})
	wantTurn(t, []int{1, 2, 3})
	wantTurn(t, []int{-1, 0})
	wantTurn(t, []int{2, 1, 2})
}

// P10.2: there are at most 1100.
func TestTurnOfMany(t *testing.T) {
	falling := numbers(1101)
	slices.Reverse(falling)
	for _, p := range [][]int{numbers(1101), falling, numbers(1102), numbers(5000), make([]int, 1101), same(1101, 1100)} {
		wantTurn(t, p)
	}
	wantTurn(t, numbers(1100), numbers(1100)...)
	wantTurn(t, falling[1:], falling[1:]...)
}

// P10.5: an order that is turned twice is itself; turned once it is an order, of which each is where the other tells.
func TestTurnedTwice(t *testing.T) {
	for _, p := range orders() {
		once := remap.Turn(p)
		wantTurn(t, once, p...)
		wantThen(t, p, once, numbers(len(p))...)
		wantThen(t, once, p, numbers(len(p))...)
	}
}

// P10.2, P10.5: what Order tells is an order, by which the keys don't fall, and turned twice is itself.
func TestOrderIsOne(t *testing.T) {
	dice := rand.New(rand.NewSource(12))
	for _, n := range []int{0, 1, 2, 13, 64, 1100} {
		keys, ids := make([]int, n), make([]string, n)
		for i := range n {
			keys[i], ids[i] = dice.Intn(20), strconv.Itoa(dice.Intn(9))
		}
		p := remap.Order(keys, ids)
		wantTurn(t, remap.Turn(p), p...)
		if !slices.IsSorted(remap.Then(p, keys)) || len(p) != n {
			t.Errorf("%v: %v", keys, p)
		}
	}
}

// P10.3: of each document what p has at the place that t tells.
func TestThen(t *testing.T) {
	wantThen(t, []int{0, -1, 1}, []int{1, 0}, 1, -1, 0)
	wantThen(t, []int{2, 1, 0}, []int{7, 8, 9}, 9, 8, 7)
	wantThen(t, []int{1, 1, 1, 1}, []int{7, 8}, 8, 8, 8, 8)
	wantThen(t, []int{0}, []int{0}, 0)
	wantThen(t, []int{0, 1, 2}, []int{-1, -2, math.MinInt}, -1, -2, math.MinInt)
	wantThen(t, []int{1, 0}, []int{math.MaxInt, 1101, 5}, 1101, math.MaxInt)
}

// P10.3: -1, if t tells -1, or less, or a place that p has not.
func TestThenNone(t *testing.T) {
	wantThen(t, []int{-1}, []int{5}, -1)
	wantThen(t, []int{-1, -2, math.MinInt, 3, 4, math.MaxInt, 2}, []int{5, 6, 7}, -1, -1, -1, -1, -1, -1, 7)
	for _, n := range []int{0, 1, 2, 64, 65, 1100, 1101} {
		for _, place := range []int{-1, -2, -n - 1, math.MinInt, n, n + 1, 1 << 32, math.MaxInt} {
			wantThen(t, []int{place}, same(n, 5), -1)
			wantThen(t, []int{place, n - 1, place, 0}, same(n, 5), -1, min(n, 1)*6-1, -1, min(n, 1)*6-1)
		}
	}
}

// P10.3: of no documents nothing is told; where p has nothing, -1 of each.
func TestThenEmpty(t *testing.T) {
	wantThen(t, nil, nil)
	wantThen(t, nil, []int{1, 2})
	wantThen(t, []int{}, []int{0})
	wantThen(t, []int{0, -1, 1, 5}, nil, -1, -1, -1, -1)
	wantThen(t, []int{0}, []int{}, -1)
}

// P10.3: lists may be as long as they like.
func TestThenLong(t *testing.T) {
	for _, n := range []int{64, 65, 1100, 1101, 5000} {
		falling := numbers(n)
		slices.Reverse(falling)
		wantThen(t, numbers(n), falling, falling...)
		wantThen(t, falling, falling, numbers(n)...)
		wantThen(t, falling, same(n, 3), same(n, 3)...)
		wantThen(t, falling, []int{9}, append(same(n-1, -1), 9)...)
	}
}

// followed is what Then must answer: of each place of p those that tell it get what it has.
func followed(first, p []int) []int {
	out := same(len(first), -1)
	for place, has := range p {
		for doc, told := range first {
			if told == place {
				out[doc] = has
			}
		}
	}
	return out
}

// P10.3: all short tables, with few places, and longer ones that happen to be, tell what the words say.
func TestThenOfAll(t *testing.T) {
	for code := range 6 * 6 * 6 {
		first := []int{code%6 - 2, code/6%6 - 2, code/36 - 2}
		for long := range 4 {
			for _, p := range [][]int{{7, 8, 9}, {2, 0, 1}, {-1, 1, -2}, {0, 0, 0}} {
				wantThen(t, first, p[:long], followed(first, p[:long])...)
				wantThen(t, first[:long], p, followed(first[:long], p)...)
			}
		}
	}
	dice := rand.New(rand.NewSource(15))
	for range 1000 {
		first, p := make([]int, dice.Intn(70)), make([]int, dice.Intn(70))
		for i := range first {
			first[i] = dice.Intn(80) - 5
		}
		for i := range p {
			p[i] = dice.Intn(80) - 5
		}
		wantThen(t, first, p, followed(first, p)...)
	}
}

// P10.1, P10.3: a table, and behind it an order that is turned, tell where each that lives stands when all are put in order.
func TestTableThenOrder(t *testing.T) {
	for _, l := range lists() {
		var keys []int
		var ids []string
		for i, lives := range l {
			if lives {
				keys, ids = append(keys, i*29%7), append(ids, strconv.Itoa(i))
			}
		}
		p := remap.Order(keys, ids)
		got := remap.Then(remap.Table(l, 0), remap.Turn(p))
		left := 0
		for i, place := range got {
			if !l[i] && place != -1 || l[i] && (place < 0 || ids[p[place]] != strconv.Itoa(i)) {
				t.Errorf("%s: %v", show(l), got)
			}
			if place != -1 {
				left++
			}
		}
		if len(got) != len(l) || left != len(p) {
			t.Errorf("%s: %v", show(l), got)
		}
	}
}

// carried is what Carry must answer of what may be: of each place whether nobody that died gets it.
func carried(n int, tables [][]int, was, now [][]bool) string {
	out := ""
	for place := range n {
		sign := "x"
		for i, table := range tables {
			for doc := range table {
				if show(was[i][doc:doc+1])+show(now[i][doc:doc+1]) == "x." && table[doc] == place {
					sign = "."
				}
			}
		}
		out += sign
	}
	return out
}

// P10.4: who lived and does not is dead; who lived not, lives still, or lives only now, is not.
func TestCarryOfOne(t *testing.T) {
	wantCarry(t, 1, [][]int{{0}}, ofAll("x"), ofAll("."), ".")
	wantCarry(t, 1, [][]int{{0}}, ofAll("x"), ofAll("x"), "x")
	wantCarry(t, 1, [][]int{{0}}, ofAll("."), ofAll("."), "x")
	wantCarry(t, 1, [][]int{{0}}, ofAll("."), ofAll("x"), "x")
	wantCarry(t, 4, [][]int{{0, 1, 2, 3}}, ofAll("x.x."), ofAll("..xx"), ".xxx")
	wantCarry(t, 4, [][]int{{3, 2, 1, 0}}, ofAll("xxxx"), ofAll(".xx."), ".xx.")
	wantCarry(t, 4, [][]int{{2, 0, 3, 1}}, ofAll("xxxx"), ofAll(".xxx"), "xx.x")
	wantCarry(t, 2, [][]int{{0, -1, 1}}, ofAll("x.x"), ofAll("x.."), "x.")
}

// P10.4: a document that gets no place, or one that is no document's, kills nobody.
func TestCarryNoPlace(t *testing.T) {
	for _, n := range []int{0, 1, 2, 63, 64} {
		all := strings.Repeat("x", n)
		for _, place := range []int{-1, -2, -n - 1, -64, math.MinInt, n, n + 1, 64, 65, 1100, 1 << 32, math.MaxInt} {
			wantCarry(t, n, [][]int{{place}}, ofAll("x"), ofAll("."), all)
			wantCarry(t, n, [][]int{{place, place}, {place}}, ofAll("xx", "x"), ofAll("..", "."), all)
			if n > 0 {
				wantCarry(t, n, [][]int{{place, n - 1, place}}, ofAll("xxx"), ofAll("..."), all[1:]+".")
			}
		}
	}
}

// P10.4: several tables are looked at, each with its own lists; those of no documents too.
func TestCarryOfMany(t *testing.T) {
	tables := [][]int{{0, -1, 1}, {}, {2, 3}, nil}
	was := ofAll("x.x", "", "xx", "")
	wantCarry(t, 4, tables, was, was, "xxxx")
	wantCarry(t, 4, tables, was, ofAll("x..", "", ".x", ""), "x..x")
	wantCarry(t, 4, tables, was, ofAll("...", "", "..", ""), "....")
	wantCarry(t, 4, tables, was, ofAll("..x", "", "xx", ""), ".xxx")
	wantCarry(t, 4, tables, was, ofAll("x.x", "", "x.", ""), "xxx.")
	wantCarry(t, 4, tables, was, ofAll("xxx", "", "xx", ""), "xxxx")
	wantCarry(t, 4, tables, [][]bool{of("x.x"), nil, of("xx"), {}}, [][]bool{of("..x"), {}, of("xx"), nil}, ".xxx")
	wantCarry(t, 3, [][]int{{}, {}}, [][]bool{{}, nil}, [][]bool{nil, {}}, "xxx")
	wantCarry(t, 3, [][]int{{2}, {1}, {0}}, ofAll("x", "x", "x"), ofAll(".", "x", "x"), "xx.")
	wantCarry(t, 3, [][]int{{2}, {1}, {0}}, ofAll("x", ".", "x"), ofAll(".", ".", "."), ".x.")
}

// P10.4: the same place got twice is dead, if one of both died, whichever comes first.
func TestCarryOfSamePlace(t *testing.T) {
	wantCarry(t, 2, [][]int{{1}, {1}}, ofAll("x", "x"), ofAll(".", "x"), "x.")
	wantCarry(t, 2, [][]int{{1}, {1}}, ofAll("x", "x"), ofAll("x", "."), "x.")
	wantCarry(t, 2, [][]int{{1}, {1}}, ofAll("x", "x"), ofAll(".", "."), "x.")
	wantCarry(t, 2, [][]int{{1}, {1}}, ofAll("x", "."), ofAll("x", "."), "xx")
	wantCarry(t, 2, [][]int{{1}, {1}}, ofAll("x", "."), ofAll(".", "x"), "x.")
	wantCarry(t, 2, [][]int{{1}, {1}}, ofAll(".", "x"), ofAll("x", "."), "x.")
	wantCarry(t, 2, [][]int{{0, 0}}, ofAll("xx"), ofAll(".x"), ".x")
	wantCarry(t, 2, [][]int{{0, 0}}, ofAll("xx"), ofAll("x."), ".x")
	wantCarry(t, 2, [][]int{{0, 0}}, ofAll(".x"), ofAll("xx"), "xx")
}

// P10.4: without tables all live, and so do those that no table tells of.
func TestCarryOfNone(t *testing.T) {
	for n := range 65 {
		all := strings.Repeat("x", n)
		wantCarry(t, n, nil, nil, nil, all)
		wantCarry(t, n, [][]int{}, nil, [][]bool{}, all)
		wantCarry(t, n, [][]int{{}}, ofAll(""), ofAll(""), all)
		if n > 0 {
			wantCarry(t, n, [][]int{{n - 1}}, ofAll("x"), ofAll("."), all[1:]+".")
			wantCarry(t, n, [][]int{{0}}, ofAll("x"), ofAll("."), "."+all[1:])
		}
	}
}

// P10.4: so few or so many documents there are not.
func TestCarryBeyond(t *testing.T) {
	for _, n := range []int{-1, -2, -64, math.MinInt, 65, 66, 128, 1100, 1 << 32, math.MaxInt} {
		wantCarry(t, n, nil, nil, nil, "")
		wantCarry(t, n, [][]int{{}}, ofAll(""), ofAll(""), "")
		wantCarry(t, n, [][]int{{0, 64, -1}}, ofAll("xxx"), ofAll("xxx"), "")
		wantCarry(t, n, [][]int{{0, 64, -1}}, ofAll("xxx"), ofAll("..."), "")
	}
}

// P10.4: nothing is told, if there are not as many lists, one more or fewer of tables, of was or of now.
func TestCarryOfUnlikeLists(t *testing.T) {
	for many := range 4 {
		for wasMany := range 4 {
			for nowMany := range 4 {
				for _, inner := range []int{0, 1, 3} {
					want := ""
					if many == wasMany && many == nowMany {
						want = "xxx"
					}
					wantCarry(t, 3, same(many, numbers(inner)), same(wasMany, same(inner, true)), same(nowMany, same(inner, true)), want)
				}
			}
		}
	}
	wantCarry(t, 3, [][]int{{}, {}}, ofAll("", "", ""), ofAll("", "", ""), "")
	wantCarry(t, 3, [][]int{{0}}, nil, ofAll("x"), "")
	wantCarry(t, 3, [][]int{{0}}, ofAll("x"), nil, "")
	wantCarry(t, 3, nil, ofAll(""), nil, "")
	wantCarry(t, 3, nil, nil, ofAll(""), "")
	wantCarry(t, 3, nil, ofAll("x"), ofAll("."), "")
}

// P10.4: nothing is told, if a list is longer or shorter than its table, whichever it is of.
func TestCarryOfUnlikeMany(t *testing.T) {
	for which := range 3 {
		for _, off := range []int{-2, -1, 1, 2, 64} {
			tables := [][]int{{0, 1}, {2, 3, 4}, {5, -1}}
			good := ofAll("xx", "x.x", "x.")
			bad := slices.Clone(good)
			bad[which] = same(len(good[which])+off, true)
			wantCarry(t, 6, tables, bad, good, "")
			wantCarry(t, 6, tables, good, bad, "")
			wantCarry(t, 6, tables, bad, bad, "")
			tables[which] = same(len(good[which])+off, 0)
			wantCarry(t, 6, tables, good, good, "")
		}
	}
	wantCarry(t, 2, [][]int{{0, 1}}, ofAll("x."), ofAll("x"), "")
	wantCarry(t, 2, [][]int{{0, 1}}, ofAll("."), ofAll(".."), "")
	wantCarry(t, 4, [][]int{{0, 1}, {2}}, ofAll("x", "xx"), ofAll("x", "xx"), "")
	wantCarry(t, 4, [][]int{{0, 1}, {2}}, ofAll("xx", "x"), ofAll("x", "xx"), "")
}

// P10.4: a table may tell of more than 64 documents.
func TestCarryOfLong(t *testing.T) {
	for _, long := range []int{64, 65, 1100, 1101, 5000} {
		table := numbers(long)
		wantCarry(t, 64, [][]int{table}, [][]bool{same(long, true)}, [][]bool{same(long, false)}, strings.Repeat(".", 64))
		slices.Reverse(table)
		now := append(same(long-1, true), false)
		wantCarry(t, 64, [][]int{table}, [][]bool{same(long, true)}, [][]bool{now}, "."+strings.Repeat("x", 63))
	}
	many := same(300, []int{2, 0})
	wantCarry(t, 3, many, same(300, of("xx")), append(same(299, of("xx")), of(".x")), "xx.")
}

// P10.4: all tables of few places, with all lists, tell what the words say.
func TestCarryOfAllShort(t *testing.T) {
	three := slices.DeleteFunc(short(3), func(l []bool) bool { return len(l) != 3 })
	for code := range 5 * 5 * 5 {
		places := []int{code%5 - 1, code/5%5 - 1, code/25 - 1}
		for _, was := range three {
			for _, now := range three {
				one, w, m := [][]int{places}, [][]bool{was}, [][]bool{now}
				wantCarry(t, 3, one, w, m, carried(3, one, w, m))
				apart, w, m := [][]int{places[:1], places[1:]}, [][]bool{was[:1], was[1:]}, [][]bool{now[:1], now[1:]}
				wantCarry(t, 3, apart, w, m, carried(3, apart, w, m))
			}
		}
	}
}

// P10.4: so do those that happen to be.
func TestCarryOfMixed(t *testing.T) {
	dice := rand.New(rand.NewSource(13))
	for range 3000 {
		n := dice.Intn(65)
		var tables [][]int
		var was, now [][]bool
		for range dice.Intn(6) {
			long := dice.Intn(12)
			table, w, m := make([]int, long), make([]bool, long), make([]bool, long)
			for i := range long {
				table[i], w[i], m[i] = dice.Intn(n+6)-3, dice.Intn(3) > 0, dice.Intn(3) > 0
			}
			tables, was, now = append(tables, table), append(was, w), append(now, m)
		}
		wantCarry(t, n, tables, was, now, carried(n, tables, was, now))
	}
}

// P10.5: who died meanwhile, and nobody else, is dead behind it: of segments that are made one, in any order of their documents.
func TestWhoDiedMeanwhile(t *testing.T) {
	dice := rand.New(rand.NewSource(14))
	for range 2000 {
		var was, now [][]bool
		var tables [][]int
		from := 0
		for range 1 + dice.Intn(5) {
			w, m := make([]bool, dice.Intn(13)), []bool(nil)
			for i := range w {
				w[i] = dice.Intn(4) > 0
				m = append(m, w[i] && dice.Intn(3) > 0)
			}
			was, now, tables = append(was, w), append(now, m), append(tables, remap.Table(w, from))
			from += live.Count(w)
		}
		p := dice.Perm(from)
		left := 0
		for i := range tables {
			tables[i] = remap.Then(tables[i], p)
			left += live.Count(now[i])
		}
		got := remap.Carry(from, tables, was, now)
		if len(got) != from || live.Count(got) != left {
			t.Fatalf("%v, %v, %v: %s", tables, was, now, show(got))
		}
		for i, table := range tables {
			for doc, place := range table {
				if was[i][doc] && got[place] != now[i][doc] {
					t.Fatalf("%v, %v, %v: %s", tables, was, now, show(got))
				}
			}
		}
	}
}

// The chapter's examples, and the whole's: the segments x, y, of which x is dead, and z.
func TestExamples(t *testing.T) {
	wantTable(t, of("x.x"), 5, 5, -1, 6)
	wantOrder(t, []int{7, 3, 7}, []string{"b", "a", "a"}, 1, 2, 0)
	wantTurn(t, []int{1, 2, 0}, 2, 0, 1)
	wantTable(t, of(".x"), 0, -1, 0)
	wantTable(t, of("x"), 1, 1)
	wantCarry(t, 2, [][]int{{-1, 0}, {1}}, ofAll(".x", "x"), ofAll("..", "x"), ".x")
}

// P1, R1: wrong arguments, nil ones and zero values make nothing panic.
func TestNothing(t *testing.T) {
	wantTable(t, nil, math.MinInt)
	wantOrder(t, nil, nil)
	wantTurn(t, nil)
	wantThen(t, nil, nil)
	wantCarry(t, 0, nil, nil, nil, "")
	wantCarry(t, math.MinInt, [][]int{nil}, [][]bool{nil, nil}, nil, "")
	wantCarry(t, 64, [][]int{nil, {1}}, [][]bool{nil, nil}, [][]bool{nil, {true}}, "")
}

// R3: what is handed in is not changed, and what lies behind a list's length is neither read nor changed.
func TestArgumentsStay(t *testing.T) {
	back := of("x.xx.x" + strings.Repeat("x", 70))
	l := back[:4]
	wantTable(t, l, 2, 2, -1, 3, 4)
	wantTable(t, back[:0], 0)
	if show(back) != "x.xx.x"+strings.Repeat("x", 70) {
		t.Errorf("the list was changed: %s", show(back))
	}
	keys, ids := []int{3, 1, 2, 1, 0, -5}, []string{"b", "b", "a", "a", "0", ""}
	wantOrder(t, keys[:4], ids[:4], 3, 1, 2, 0)
	wantOrder(t, keys[:4], ids[:5])
	if !slices.Equal(keys, []int{3, 1, 2, 1, 0, -5}) || !slices.Equal(ids, []string{"b", "b", "a", "a", "0", ""}) {
		t.Errorf("keys or ids were changed: %v, %q", keys, ids)
	}
	p := []int{1, 2, 0, 0, 9}
	wantTurn(t, p[:3], 2, 0, 1)
	wantTurn(t, p[:2])
	wantTurn(t, p[:4])
	first := []int{3, 1, -1, 0, 2}
	wantThen(t, first[:4], p[:2], -1, 2, -1, 1)
	if !slices.Equal(p, []int{1, 2, 0, 0, 9}) || !slices.Equal(first, []int{3, 1, -1, 0, 2}) {
		t.Errorf("tables were changed: %v, %v", p, first)
	}
}

// R3: the same of Carry, of the lists and of what they are lists of.
func TestCarryArgumentsStay(t *testing.T) {
	table, w, m := []int{1, 0, 3, 2}, of("xxxx"), of("x.x.")
	tables, was, now := [][]int{table[:2], {2}}, [][]bool{w[:2], of("x")}, [][]bool{m[:2], of(".")}
	wantCarry(t, 4, tables[:1], was[:1], now[:1], ".xxx")
	wantCarry(t, 4, tables, was, now, ".x.x")
	wantCarry(t, 4, tables[:1], was, now, "")
	wantCarry(t, 4, tables, was[:1], now, "")
	wantCarry(t, 4, tables, was, now[:1], "")
	if !slices.Equal(table, []int{1, 0, 3, 2}) || show(w) != "xxxx" || show(m) != "x.x." {
		t.Errorf("lists were changed: %v, %s, %s", table, show(w), show(m))
	}
	if len(tables[0]) != 2 || tables[1][0] != 2 || len(was[0]) != 2 || show(was[1]) != "x" || len(now[0]) != 2 || show(now[1]) != "." {
		t.Errorf("lists were changed: %v, %v, %v", tables, was, now)
	}
}

// spoil changes all numbers that there are behind a list's beginning.
func spoil(l []int) {
	l = l[:cap(l)]
	for i := range l {
		l[i] = 77
	}
}

// spoilLives does so of whether they live.
func spoilLives(l []bool) {
	l = l[:cap(l)]
	for i := range l {
		l[i] = !l[i]
	}
}

// R3, R5: an answer is the caller's own: what is done to it changes nothing of what was handed in, nor of the next answer.
func TestAnswersAreNew(t *testing.T) {
	l, keys, ids, p := of("x.xx"), []int{3, 1, 2, 1}, []string{"b", "b", "a", "a"}, []int{1, 3, 0, 2}
	tables, was, now := [][]int{{0, 1}, {2, -1}}, ofAll("xx", "x."), ofAll("x.", "x.")
	for range 3 {
		wantTable(t, l, 1, 1, -1, 2, 3)
		wantOrder(t, keys, ids, 3, 1, 2, 0)
		wantTurn(t, p, 2, 0, 3, 1)
		wantThen(t, p, p, 3, 2, 1, 0)
		wantCarry(t, 3, tables, was, now, "x.x")
		wantCarry(t, 3, tables, was, was, "xxx")
		spoil(remap.Table(l, 1))
		spoil(remap.Order(keys, ids))
		spoil(remap.Turn(p))
		spoil(remap.Turn([]int{0, 1, 2}))
		spoil(remap.Then(p, p))
		spoil(remap.Then(p, []int{0, 1, 2, 3}))
		spoil(remap.Then([]int{0, 1, 2, 3}, p))
		spoilLives(remap.Carry(3, tables, was, now))
		spoilLives(remap.Carry(2, tables[:1], was[:1], was[:1]))
		remap.Turn([]int{1})
		remap.Order(keys, nil)
	}
}

// R3: later changes of what was handed in change nothing of what was answered.
func TestAnswersStay(t *testing.T) {
	l, keys, ids, p, first := of("x.xx"), []int{3, 1, 2, 1}, []string{"b", "b", "a", "a"}, []int{1, 3, 0, 2}, []int{0, 1, 2, 3}
	tables, was, now := [][]int{{0, 1}, {2, -1}}, ofAll("xx", "x."), ofAll("x.", "x.")
	table, order, turned, identity := remap.Table(l, 1), remap.Order(keys, ids), remap.Turn(p), remap.Turn(first)
	then, back, carried := remap.Then(first, p), remap.Then(p, first), remap.Carry(3, tables, was, now)
	spoilLives(l)
	spoil(keys)
	clear(ids)
	spoil(p)
	spoil(first)
	for i := range tables {
		spoil(tables[i])
		spoilLives(was[i])
		spoilLives(now[i])
	}
	clear(tables)
	clear(was)
	clear(now)
	for i, c := range [][2][]int{{table, {1, -1, 2, 3}}, {order, {3, 1, 2, 0}}, {turned, {2, 0, 3, 1}}, {identity, {0, 1, 2, 3}}, {then, {1, 3, 0, 2}}, {back, {1, 3, 0, 2}}} {
		if !slices.Equal(c[0], c[1]) {
			t.Errorf("%d: %v; want %v", i, c[0], c[1])
		}
	}
	if show(carried) != "x.x" {
		t.Errorf("%s", show(carried))
	}
}

// R6: a list without elements may be nil or empty.
func TestEmptyLists(t *testing.T) {
	wantTable(t, []bool{}, 3)
	wantOrder(t, []int{}, []string{})
	wantTurn(t, []int{})
	wantThen(t, []int{}, []int{})
	wantCarry(t, 2, [][]int{}, [][]bool{}, [][]bool{}, "xx")
	wantCarry(t, 2, [][]int{nil}, [][]bool{{}}, [][]bool{nil}, "xx")
}
