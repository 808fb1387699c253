package policy_test

import (
	"math"
	"math/rand"
	"slices"
	"strconv"
	"strings"
	"testing"

	"catchword/api"
	"catchword/policy"
)

// top is the greatest Gen.
const top = 1<<35 - 1

// number is that of a text.
func number(text string) int {
	n, err := strconv.Atoi(text)
	if err != nil {
		panic(text)
	}
	return n
}

// sizes are those that a text tells of: of each its Gen, a colon, and its Docs, a slash and its Dead, if any are, and a ! if it is busy.
func sizes(text string) []api.Size {
	var l []api.Size
	for _, part := range strings.Fields(text) {
		rest, busy := strings.CutSuffix(part, "!")
		gen, rest, _ := strings.Cut(rest, ":")
		docs, dead, some := strings.Cut(rest, "/")
		s := api.Size{Gen: number(gen), Docs: number(docs), Busy: busy}
		if some {
			s.Dead = number(dead)
		}
		l = append(l, s)
	}
	return l
}

// shown is the text of sizes.
func shown(l []api.Size) string {
	var parts []string
	for _, s := range l {
		text := strconv.Itoa(s.Gen) + ":" + strconv.Itoa(s.Docs)
		if s.Dead != 0 {
			text += "/" + strconv.Itoa(s.Dead)
		}
		if s.Busy {
			text += "!"
		}
		parts = append(parts, text)
	}
	return strings.Join(parts, " ")
}

// proposals are those that a text tells of: of each its Gens, and a comma between two proposals.
func proposals(text string) [][]int {
	var p [][]int
	if text == "" {
		return nil
	}
	for _, part := range strings.Split(text, ",") {
		gens := []int{}
		for _, gen := range strings.Fields(part) {
			gens = append(gens, number(gen))
		}
		p = append(p, gens)
	}
	return p
}

// told is the text of proposals.
func told(p [][]int) string {
	var parts []string
	for _, gens := range p {
		var l []string
		for _, gen := range gens {
			l = append(l, strconv.Itoa(gen))
		}
		parts = append(parts, "("+strings.Join(l, " ")+")")
	}
	return strings.Join(parts, ",")
}

func same(a, b [][]int) bool { return slices.EqualFunc(a, b, slices.Equal[[]int]) }

func tier(per, most int) api.Tier { return api.Tier{Per: per, Most: most} }

// copied are proposals as new memory.
func copied(p [][]int) [][]int {
	var out [][]int
	for _, gens := range p {
		out = append(out, slices.Clone(gens))
	}
	return out
}

// plain are segments of so many documents each, all of which live, of the Gens 1, 2 and so on.
func plain(docs ...int) []api.Size {
	var l []api.Size
	for i, n := range docs {
		l = append(l, api.Size{Gen: i + 1, Docs: n})
	}
	return l
}

// busyAt is l, of which those of a mask are busy.
func busyAt(l []api.Size, mask int) []api.Size {
	l = slices.Clone(l)
	for i := range l {
		l[i].Busy = mask>>i&1 == 1
	}
	return l
}

// From here to untilOf the chapter's words are worked out a second time, by places in l.

// rung is the level of so many: the greatest power of per that is not above it tells it.
func rung(many, per int) int {
	k := 0
	for power := per; power <= many; power *= per {
		k++
	}
	return k
}

// sum is what lives of the segments at places.
func sum(l []api.Size, places []int) int {
	many := 0
	for _, i := range places {
		many += l[i].Docs - l[i].Dead
	}
	return many
}

// gensOf are the Gens of the segments at places.
func gensOf(l []api.Size, places []int) []int {
	var out []int
	for _, i := range places {
		out = append(out, l[i].Gen)
	}
	return out
}

// rest are groups as Gens, and behind them, by themselves, those idle segments that are in no group, and wanted.
func rest(l []api.Size, groups [][]int, wanted func(s api.Size) bool) [][]int {
	var p [][]int
	for _, places := range groups {
		p = append(p, gensOf(l, places))
	}
	taken := slices.Concat(groups...)
	for i, s := range l {
		if !s.Busy && wanted(s) && !slices.Contains(taken, i) {
			p = append(p, []int{s.Gen})
		}
	}
	return p
}

func moreThanHalf(s api.Size) bool { return 2*s.Dead > s.Docs }

func atAll(s api.Size) bool { return s.Dead >= 1 }

// tieredOf is what Tiered must answer of what may be.
func tieredOf(l []api.Size, c api.Tier) [][]int {
	var groups [][]int
	for k := range 7 {
		var places []int
		for i, s := range l {
			if !s.Busy && rung(s.Docs-s.Dead, c.Per) == k {
				places = append(places, i)
			}
		}
		for n := range len(places) / c.Per {
			if g := places[n*c.Per : (n+1)*c.Per]; sum(l, g) <= c.Most {
				groups = append(groups, g)
			}
		}
	}
	return rest(l, groups, moreThanHalf)
}

// logsOf is what Logs must answer of what may be.
func logsOf(l []api.Size, c api.Tier) [][]int {
	var groups [][]int
	free := 0
	for i := range l {
		var g []int
		for k := i; k < i+c.Per && k < len(l); k++ {
			if !l[k].Busy && rung(sum(l, []int{k}), c.Per) == rung(sum(l, []int{i}), c.Per) {
				g = append(g, k)
			}
		}
		if i >= free && len(g) == c.Per && sum(l, g) <= c.Most {
			groups = append(groups, g)
			free = i + c.Per
		}
	}
	return rest(l, groups, moreThanHalf)
}

// forceOf is what Force must answer of what may be.
func forceOf(l []api.Size, n int) [][]int {
	var places []int
	for i, s := range l {
		if !s.Busy {
			places = append(places, i)
		}
	}
	if len(places) <= n {
		return rest(l, nil, atAll)
	}
	return rest(l, [][]int{places[:len(places)-n+1]}, atAll)
}

// afterOf is what After must answer of sizes that may be: a list by the places that there were, 0 where none is left.
func afterOf(l []api.Size, p [][]int) []api.Size {
	place, gen := map[int]int{}, 0
	for i, s := range l {
		place[s.Gen] = i
		gen = max(gen, s.Gen)
	}
	now := slices.Clone(l)
	for _, from := range p {
		gen++
		one := api.Size{Gen: gen}
		first := len(l)
		for _, g := range from {
			i, is := place[g]
			if !is {
				return nil
			}
			delete(place, g)
			one.Docs += l[i].Docs - l[i].Dead
			first = min(first, i)
			now[i] = api.Size{}
		}
		if len(from) == 0 || gen > top || one.Docs > 64 {
			return nil
		}
		if one.Docs > 0 {
			now[first] = one
		}
	}
	var out []api.Size
	for _, s := range now {
		if s.Gen != 0 {
			out = append(out, s)
		}
	}
	return out
}

// untilOf is what Until must answer of what may be.
func untilOf(l []api.Size, c api.Tier, logs bool) ([]api.Size, int) {
	p := tieredOf(l, c)
	if logs {
		p = logsOf(l, c)
	}
	if len(p) == 0 {
		return l, 0
	}
	next := afterOf(l, p)
	living := false
	for _, s := range l {
		living = living || s.Docs > s.Dead
	}
	if len(next) == 0 && living {
		return l, 0
	}
	last, n := untilOf(next, c, logs)
	return last, n + 1
}

func wantTiered(t *testing.T, l []api.Size, c api.Tier, want string) {
	t.Helper()
	if p := policy.Tiered(l, c); !same(p, proposals(want)) {
		t.Errorf("Tiered(%s; %v): %s; want %s", shown(l), c, told(p), want)
	}
}

func wantLogs(t *testing.T, l []api.Size, c api.Tier, want string) {
	t.Helper()
	if p := policy.Logs(l, c); !same(p, proposals(want)) {
		t.Errorf("Logs(%s; %v): %s; want %s", shown(l), c, told(p), want)
	}
}

func wantForce(t *testing.T, l []api.Size, n int, want string) {
	t.Helper()
	if p := policy.Force(l, n); !same(p, proposals(want)) {
		t.Errorf("Force(%s; %d): %s; want %s", shown(l), n, told(p), want)
	}
}

func wantAfter(t *testing.T, l []api.Size, p [][]int, want string) {
	t.Helper()
	if x := policy.After(l, p); !slices.Equal(x, sizes(want)) {
		t.Errorf("After(%s; %s): %s; want %s", shown(l), told(p), shown(x), want)
	}
}

func wantUntil(t *testing.T, l []api.Size, c api.Tier, logs bool, want string, times int) {
	t.Helper()
	if x, n := policy.Until(l, c, logs); !slices.Equal(x, sizes(want)) || n != times {
		t.Errorf("Until(%s; %v, %t): %s, %d; want %s, %d", shown(l), c, logs, shown(x), n, want, times)
	}
}

// wantAll holds each call on what may be against the second working-out.
func wantAll(t *testing.T, l []api.Size, c api.Tier, n int) {
	t.Helper()
	if p, want := policy.Tiered(l, c), tieredOf(l, c); !same(p, want) {
		t.Errorf("Tiered(%s; %v): %s; want %s", shown(l), c, told(p), told(want))
	}
	if p, want := policy.Logs(l, c), logsOf(l, c); !same(p, want) {
		t.Errorf("Logs(%s; %v): %s; want %s", shown(l), c, told(p), told(want))
	}
	if p, want := policy.Force(l, n), forceOf(l, n); !same(p, want) {
		t.Errorf("Force(%s; %d): %s; want %s", shown(l), n, told(p), told(want))
	}
	for _, p := range [][][]int{tieredOf(l, c), logsOf(l, c), forceOf(l, n)} {
		wantDone(t, l, p)
	}
	for _, logs := range []bool{false, true} {
		x, times := policy.Until(l, c, logs)
		if want, many := untilOf(l, c, logs); !slices.Equal(x, want) || times != many {
			t.Errorf("Until(%s; %v, %t): %s, %d; want %s, %d", shown(l), c, logs, shown(x), times, shown(want), many)
		}
	}
}

// wantDone holds After of sizes that may be against the second working-out.
func wantDone(t *testing.T, l []api.Size, p [][]int) {
	t.Helper()
	if x, want := policy.After(l, p), afterOf(l, p); !slices.Equal(x, want) {
		t.Errorf("After(%s; %s): %s; want %s", shown(l), told(p), shown(x), shown(want))
	}
}

// wantNothing asks that all calls tell nothing.
func wantNothing(t *testing.T, l []api.Size, c api.Tier, n int, p [][]int) {
	t.Helper()
	wantTiered(t, l, c, "")
	wantLogs(t, l, c, "")
	wantForce(t, l, n, "")
	wantAfter(t, l, p, "")
	wantUntil(t, l, c, false, "", 0)
	wantUntil(t, l, c, true, "", 0)
}

// someTiers are policies that may be: those of the ends, and some between.
func someTiers() []api.Tier {
	var out []api.Tier
	for _, per := range []int{2, 3, 4, 7, 8} {
		for _, most := range []int{1, 2, 5, 9, 31, 63, 64} {
			out = append(out, tier(per, most))
		}
	}
	return out
}

// The chapter's example, and that of the whole.
func TestExample(t *testing.T) {
	wantTiered(t, plain(1, 5, 1), tier(2, 9), "1 3")
	wantLogs(t, plain(1, 5, 1), tier(2, 9), "")
}

// P12.1: what the words say of sizes, at their ends.
func TestMay(t *testing.T) {
	for _, text := range []string{
		"", "1:0", "1:1", "1:64", "1:64/64", "1:64/63", "1:5/5", "1:5/4", "1:0!", "1:64/64!", "34359738367:0", "34359738366:64/1", "34359738367:1 34359738366:1 1:1",
		"2:1 1:1", "3:64/64 2:0 1:7/1! 9:64", "1:1 2:2 3:3 4:4 5:5 6:6 7:7 8:8 9:9 10:10 11:11 12:12 13:13 14:14 15:15 16:16",
	} {
		if !policy.May(sizes(text)) {
			t.Errorf("May(%s): false", text)
		}
	}
	for _, text := range []string{
		"0:0", "0:1", "-1:1", "34359738368:0", "34359738369:1", "1:-1", "1:65", "1:66", "1:65/65", "1:5/-1", "1:5/6", "1:0/1", "1:0/-1", "1:64/65", "1:-1/-1", "1:-2/-1", "1:-1/-2", "0:1!",
		"1:1 1:1", "1:1 1:2/1!", "1:1 2:1 1:1", "3:1 1:1 1:1", "1:1 2:1 3:1 4:1 2:1", "34359738367:1 34359738367:2",
		"9223372036854775807:1", "-9223372036854775808:1", "1:9223372036854775807", "1:-9223372036854775808", "1:1/9223372036854775807", "1:1/-9223372036854775808", "4294967296:4294967297",
		"1:1 2:2 3:3 4:4 5:5 6:6 7:7 8:8 9:9 10:10 11:11 12:12 13:13 14:14 15:15 16:16 17:17",
	} {
		if policy.May(sizes(text)) {
			t.Errorf("May(%s): true", text)
		}
	}
	for n := range 40 {
		if is := policy.May(plain(make([]int, n)...)); is != (n <= 16) {
			t.Errorf("May of %d: %t", n, is)
		}
	}
	if policy.May(make([]api.Size, 1)) || policy.May(make([]api.Size, 5000)) {
		t.Error("May of zero ones")
	}
}

// P12.1: all Docs and Dead near their ends are told of as the words say.
func TestMayOfAll(t *testing.T) {
	for docs := -3; docs < 70; docs++ {
		for dead := -3; dead < 70; dead++ {
			is := policy.May([]api.Size{{Gen: 1, Docs: docs, Dead: dead}})
			if want := docs >= 0 && docs <= 64 && dead >= 0 && dead <= docs; is != want {
				t.Errorf("May of %d, %d: %t", docs, dead, is)
			}
		}
	}
	for a := range 16 {
		for b := range 16 {
			l := plain(make([]int, 16)...)
			l[a].Gen = l[b].Gen
			if is := policy.May(l); is != (a == b) {
				t.Errorf("May with the Gen of %d at %d: %t", b, a, is)
			}
		}
	}
}

// P12.1: of sizes that may not be nothing is told, wherever the fault is, though all else is as it would be proposed.
func TestSizesThatMayNotBe(t *testing.T) {
	good := sizes("3:1 4:1 6:9/8 5:2 8:2 7:5/5 10:64/40")
	wantTiered(t, good, tier(2, 9), "3 4,6 7,5 8,10")
	wantLogs(t, good, tier(2, 9), "3 4,5 8,6,7,10")
	wantForce(t, good, 3, "3 4 6 5 8,7,10")
	wantAfter(t, good, proposals("3 4"), "11:2 6:9/8 5:2 8:2 7:5/5 10:64/40")
	p := proposals("3 4")
	for at := range good {
		for _, s := range []api.Size{
			{}, {Gen: 0, Docs: 1}, {Gen: -1, Docs: 1}, {Gen: top + 1, Docs: 1}, {Gen: 20, Docs: -1}, {Gen: 20, Docs: 65}, {Gen: 20, Docs: 65, Dead: 60}, {Gen: 20, Docs: 2, Dead: 3},
			{Gen: 20, Docs: 2, Dead: -1}, {Gen: 20, Dead: 1}, {Gen: 20, Docs: 2, Dead: 3, Busy: true}, {Gen: math.MaxInt}, {Gen: math.MinInt}, {Gen: 20, Docs: math.MaxInt, Dead: math.MinInt},
			{Gen: 20, Docs: math.MinInt, Dead: math.MaxInt}, {Gen: 20, Docs: math.MaxInt, Dead: math.MaxInt}, good[(at+1)%7], good[(at+4)%7],
		} {
			l := slices.Clone(good)
			l[at] = s
			wantNothing(t, l, tier(2, 9), 1, nil)
			wantNothing(t, l, tier(2, 9), 3, p)
		}
	}
	for _, n := range []int{17, 18, 33, 1000} {
		l := plain(slices.Repeat([]int{1}, n)...)
		wantNothing(t, l, tier(2, 9), 1, nil)
		wantNothing(t, l, tier(2, 9), 1, p)
		wantNothing(t, make([]api.Size, n), tier(2, 9), 1, nil)
	}
	wantTiered(t, plain(slices.Repeat([]int{1}, 16)...), tier(8, 8), "1 2 3 4 5 6 7 8,9 10 11 12 13 14 15 16")
}

// P12.1: of a policy that may not be nothing is told, neither of those together, nor of those by themselves.
func TestPolicyThatMayNotBe(t *testing.T) {
	l := sizes("3:1 4:1 6:9/8 5:2 8:2 7:5/5 9:1 10:1 11:1 12:1 13:1 14:1 15:1 16:1")
	for _, per := range []int{math.MinInt, -2, -1, 0, 1, 9, 10, 16, 17, 64, 1 << 32, 1<<32 + 2, math.MaxInt} {
		for _, most := range []int{0, 1, 9, 64, 65} {
			for _, l := range [][]api.Size{l, nil, sizes("1:3/2"), sizes("1:1")} {
				wantTiered(t, l, tier(per, most), "")
				wantLogs(t, l, tier(per, most), "")
				wantUntil(t, l, tier(per, most), false, "", 0)
				wantUntil(t, l, tier(per, most), true, "", 0)
			}
		}
	}
	for _, most := range []int{math.MinInt, -64, -1, 0, 65, 66, 128, 1 << 32, 1<<32 + 9, math.MaxInt} {
		for per := range 10 {
			wantTiered(t, l, tier(per, most), "")
			wantLogs(t, l, tier(per, most), "")
			wantUntil(t, l, tier(per, most), false, "", 0)
			wantUntil(t, l, tier(per, most), true, "", 0)
		}
	}
}

// P12.1: policies at their ends are ones that may be.
func TestPolicyAtItsEnds(t *testing.T) {
	l := plain(slices.Repeat([]int{0}, 8)...)
	l[7].Docs = 1
	wantTiered(t, l, tier(2, 1), "1 2,3 4,5 6,7 8")
	wantLogs(t, l, tier(2, 1), "1 2,3 4,5 6,7 8")
	wantTiered(t, l, tier(8, 1), "1 2 3 4 5 6 7 8")
	wantLogs(t, l, tier(8, 1), "1 2 3 4 5 6 7 8")
	wantTiered(t, plain(32, 32), tier(2, 64), "1 2")
	wantLogs(t, plain(32, 32), tier(2, 64), "1 2")
	wantTiered(t, plain(8, 8, 8, 8, 8, 8, 8, 8), tier(8, 64), "1 2 3 4 5 6 7 8")
	wantLogs(t, plain(8, 8, 8, 8, 8, 8, 8, 8), tier(8, 64), "1 2 3 4 5 6 7 8")
	for per := 2; per <= 8; per++ {
		for most := 1; most <= 64; most++ {
			wantTiered(t, sizes("5:3/2"), tier(per, most), "5")
			wantLogs(t, sizes("5:3/2"), tier(per, most), "5")
			wantUntil(t, sizes("5:3/2"), tier(per, most), false, "6:1", 1)
			wantUntil(t, sizes("5:3/2"), tier(per, most), true, "6:1", 1)
		}
	}
}

// P12.2, P12.3: of no sizes, and of one, nothing is proposed, but of one of which more than half are dead.
func TestFew(t *testing.T) {
	for _, c := range someTiers() {
		wantTiered(t, nil, c, "")
		wantLogs(t, nil, c, "")
		for docs := range 65 {
			for dead := range docs + 1 {
				want := ""
				if dead > docs-dead {
					want = "7"
				}
				s := api.Size{Gen: 7, Docs: docs, Dead: dead}
				wantTiered(t, []api.Size{s}, c, want)
				wantLogs(t, []api.Size{s}, c, want)
				s.Busy = true
				wantTiered(t, []api.Size{s}, c, "")
				wantLogs(t, []api.Size{s}, c, "")
			}
		}
	}
}

// P12.2: level by level, the lower ones first; of each in order, so many at once as are asked for.
func TestTiered(t *testing.T) {
	l := sizes("5:3 2:10/6 9:2 7:1! 4:3/1 8:2/2")
	wantTiered(t, l, tier(2, 5), "5 9,2,8")
	wantTiered(t, l, tier(2, 4), "2,8")
	wantTiered(t, l, tier(3, 64), "9 4 8,2")
	wantTiered(t, plain(9, 1, 9, 1), tier(2, 64), "2 4,1 3")
	wantTiered(t, plain(16, 4, 16, 1, 4, 1), tier(2, 64), "4 6,2 5,1 3")
	wantTiered(t, plain(1, 1, 1, 1, 1), tier(2, 64), "1 2,3 4")
	wantTiered(t, plain(1, 1, 1, 1, 1, 1), tier(3, 64), "1 2 3,4 5 6")
	wantTiered(t, plain(1, 1, 1, 1, 1), tier(4, 64), "1 2 3 4")
	wantTiered(t, plain(1, 1, 1, 1, 1), tier(5, 64), "1 2 3 4 5")
	wantTiered(t, plain(1, 1, 1, 1, 1), tier(6, 64), "")
	wantTiered(t, sizes("9:1 8:1 7:1 1:1"), tier(2, 64), "9 8,7 1")
	wantTiered(t, sizes("34359738367:1 1:1"), tier(2, 64), "34359738367 1")
	wantTiered(t, sizes("1:0 2:0 3:1 4:0"), tier(2, 64), "1 2,3 4")
	wantTiered(t, sizes("1:64/63 2:64/64 3:64/62 4:64/61"), tier(2, 64), "1 2,3 4")
}

// P12.2: of too many nothing is proposed, and it is gone on behind all of them.
func TestTieredTooMany(t *testing.T) {
	wantTiered(t, plain(3, 3, 2), tier(2, 5), "")
	wantTiered(t, plain(3, 3, 2, 2), tier(2, 5), "3 4")
	wantTiered(t, plain(2, 3, 3, 2), tier(2, 5), "1 2,3 4")
	wantTiered(t, plain(3, 3, 3, 2, 2, 2), tier(2, 5), "3 4,5 6")
	wantTiered(t, plain(7, 7, 1, 7, 1), tier(2, 9), "3 5")
	wantTiered(t, plain(3, 3, 3, 4, 3, 3, 5), tier(3, 9), "1 2 3")
	wantTiered(t, sizes("1:3 2:9/6 3:2"), tier(2, 5), "2") // two that are too many together may be by themselves
	wantTiered(t, sizes("1:9/6 2:9/6 3:2"), tier(2, 5), "1,2")
}

// P12.3: only what stands one behind the other, is idle and of one level; of too many it is gone on with the next one.
func TestLogs(t *testing.T) {
	l := sizes("5:3 2:10/6 9:2 7:1! 4:3/1 8:2/2")
	wantLogs(t, l, tier(2, 5), "2,8")
	wantLogs(t, sizes("1:4 2:1 3:1 4:1 5:1!"), tier(2, 5), "2 3")
	wantLogs(t, plain(9, 1, 9, 1), tier(2, 64), "")
	wantLogs(t, plain(9, 9, 1, 1), tier(2, 64), "1 2,3 4")
	wantLogs(t, plain(1, 1, 1, 1, 1), tier(2, 64), "1 2,3 4")
	wantLogs(t, plain(9, 1, 1, 9, 1, 1), tier(2, 64), "2 3,5 6")
	wantLogs(t, plain(1, 1, 1, 1, 1), tier(4, 64), "1 2 3 4")
	wantLogs(t, plain(4, 1, 1, 1, 1), tier(4, 64), "2 3 4 5")
	wantLogs(t, plain(1, 1, 1, 1, 4), tier(4, 64), "1 2 3 4")
	wantLogs(t, plain(1, 1, 1, 4, 1), tier(4, 64), "")
	wantLogs(t, plain(1, 1, 1, 1, 1), tier(5, 64), "1 2 3 4 5")
	wantLogs(t, plain(1, 1, 1, 1, 1), tier(6, 64), "")
	wantLogs(t, sizes("9:1 8:1 7:1 1:1"), tier(2, 64), "9 8,7 1")
	wantLogs(t, sizes("1:1 2:1! 3:1 4:1"), tier(2, 64), "3 4")
	wantLogs(t, sizes("1:1 2:1! 3:1 4:1 5:1!"), tier(3, 64), "")
}

// P12.3: of too many the next one is tried, with those that were too many with the one ahead.
func TestLogsTooMany(t *testing.T) {
	wantLogs(t, plain(3, 3, 2), tier(2, 5), "2 3")
	wantLogs(t, plain(3, 3, 2, 2), tier(2, 5), "2 3")
	wantLogs(t, plain(3, 3, 3, 2, 2, 2), tier(2, 5), "3 4,5 6")
	wantLogs(t, plain(3, 3, 3, 3, 3), tier(2, 5), "")
	wantLogs(t, plain(5, 4, 3, 3, 3, 3), tier(3, 9), "3 4 5")
	wantLogs(t, plain(4, 3, 3, 3, 3, 3), tier(3, 9), "2 3 4")
	wantLogs(t, sizes("1:3 2:9/6 3:3"), tier(2, 5), "2")
	wantLogs(t, sizes("1:3 2:9/6 3:2"), tier(2, 5), "2 3")
}

// P12.2, P12.3: of a level are those from a power of Per to just below the next one: two are proposed just if they are of one.
func TestLevels(t *testing.T) {
	for per := 2; per <= 8; per++ {
		for a := range 65 {
			for b := range 65 {
				l := plain(slices.Repeat([]int{a}, per)...)
				l[per-1].Docs = b
				want := ""
				if rung(a, per) == rung(b, per) && (per-1)*a+b <= 64 {
					want = "1 2 3 4 5 6 7 8"[:2*per-1]
				}
				wantTiered(t, l, tier(per, 64), want)
				wantLogs(t, l, tier(per, 64), want)
			}
		}
	}
}

// P12.2, P12.3: at the ends of a level, also where some are dead: what lives tells the level.
func TestEndsOfLevels(t *testing.T) {
	for per := 2; per <= 5; per++ {
		for _, c := range []struct {
			a, b int
			one  bool
		}{
			{0, per - 1, true}, {per - 1, per, false}, {per, per, true}, {per, per + 1, true}, {per, per*per - 1, true}, {per + 1, per*per - 1, true}, {per*per - 1, per * per, false}, {per - 1, per * per, false}, {0, per, false}, {1, per, false},
		} {
			for dead := range 20 {
				l := plain(slices.Repeat([]int{c.a}, per)...)
				l[0].Docs = c.b
				l[per-1].Docs, l[per-1].Dead = c.a+dead, dead
				if (per-1)*c.a+c.b > 64 || c.a+dead > 64 {
					continue
				}
				want := ""
				if c.one {
					want = "1 2 3 4 5"[:2*per-1]
				} else if dead > c.a {
					want = strconv.Itoa(per)
				}
				wantTiered(t, l, tier(per, 64), want)
				wantLogs(t, l, tier(per, 64), want)
			}
		}
	}
	wantTiered(t, plain(2, 64, 32, 16, 8, 4, 1, 0, 2), tier(2, 64), "7 8,1 9")
	wantTiered(t, sizes("1:64 2:64"), tier(2, 64), "")
	wantTiered(t, sizes("1:32 2:32 3:16 4:16"), tier(2, 64), "3 4,1 2")
	wantTiered(t, sizes("1:63/31 2:64/32"), tier(2, 64), "1 2")
}

// P12.2, P12.3: at most Most of them live together; what is dead does not count.
func TestMost(t *testing.T) {
	for per := 2; per <= 8; per++ {
		for most := 1; most <= 64; most++ {
			docs := make([]int, per)
			for i := range most {
				docs[i%per]++
			}
			all := "1 2 3 4 5 6 7 8"[:2*per-1]
			wants := func(l []api.Size, most int, want string) {
				t.Helper()
				if rung(l[0].Docs-l[0].Dead, per) == rung(l[per-1].Docs-l[per-1].Dead, per) {
					wantTiered(t, l, tier(per, most), want)
					wantLogs(t, l, tier(per, most), want)
				}
			}
			wants(plain(docs...), most, all)
			if most > 1 {
				wants(plain(docs...), most-1, "")
			}
			l := plain(docs...)
			for i := range l {
				dead := min(3, l[i].Docs)
				l[i].Docs, l[i].Dead = l[i].Docs+dead, dead
			}
			if l[0].Docs <= 64 {
				wants(l, most, all)
			}
		}
	}
}

// P12.2, P12.3: just half dead is not enough, one more is; who is of a proposal is not by itself, too; who is busy never is.
func TestByThemselves(t *testing.T) {
	for docs := range 65 {
		half := docs / 2
		for _, l := range [][]api.Size{
			{{Gen: 4, Docs: docs, Dead: half}, {Gen: 2, Docs: 64}}, {{Gen: 2, Docs: 64}, {Gen: 4, Docs: docs, Dead: half}},
		} {
			wantTiered(t, l, tier(2, 40), "")
			wantLogs(t, l, tier(2, 40), "")
		}
		if docs > half {
			l := sizes("2:64 4:0 3:64")
			l[1] = api.Size{Gen: 4, Docs: docs, Dead: half + 1}
			wantTiered(t, l, tier(2, 40), "4")
			wantLogs(t, l, tier(2, 40), "4")
		}
	}
	wantTiered(t, sizes("1:9/8 2:1 3:9/9 4:8/7 5:1"), tier(2, 9), "1 2,3 4")
	wantTiered(t, sizes("1:9/8 2:1 3:9/9 4:16/8 5:2/2"), tier(2, 9), "1 2,3 5")
	wantTiered(t, sizes("1:9/8 2:9/8 3:9/8"), tier(2, 9), "1 2,3")
	wantTiered(t, sizes("3:9/8 2:9/8 1:9/8"), tier(4, 9), "3,2,1")
	wantTiered(t, sizes("3:9/8! 2:9/8 1:9/8!"), tier(4, 9), "2")
	wantLogs(t, sizes("1:9/8 2:1 3:9/9 4:16/8 5:2/2"), tier(2, 9), "1 2,3,5")
	wantLogs(t, sizes("1:9/9 2:64 3:9/8 4:1 5:9/9"), tier(2, 9), "3 4,1,5")
	wantLogs(t, sizes("1:9/9 2:64 3:9/8 4:1 5:9/9!"), tier(2, 9), "3 4,1")
	wantLogs(t, sizes("3:9/8 2:9/8 1:9/8"), tier(4, 9), "3,2,1")
	wantLogs(t, sizes("3:9/8! 2:9/8 1:9/8!"), tier(2, 9), "2")
}

// P12.2 to P12.4: who is busy is of no proposal: in Tiered and Force those behind it are taken instead, in Logs it stands between.
func TestBusy(t *testing.T) {
	l := plain(1, 1, 1, 1, 1)
	for _, c := range []struct{ busy, tiered, logs, force string }{
		{"", "1 2,3 4", "1 2,3 4", "1 2 3 4"},
		{"1", "2 3,4 5", "2 3,4 5", "2 3 4"},
		{"5", "1 2,3 4", "1 2,3 4", "1 2 3"},
		{"3", "1 2,4 5", "1 2,4 5", "1 2 4"},
		{"2", "1 3,4 5", "3 4", "1 3 4"},
		{"24", "1 3", "", "1 3"},
		{"135", "2 4", "", ""},
		{"234", "1 5", "", ""},
		{"1234", "", "", ""},
		{"12345", "", "", ""},
	} {
		m := slices.Clone(l)
		for i := range m {
			m[i].Busy = strings.Contains(c.busy, strconv.Itoa(i+1))
		}
		wantTiered(t, m, tier(2, 9), c.tiered)
		wantLogs(t, m, tier(2, 9), c.logs)
		wantForce(t, m, 2, c.force)
	}
	for mask := range 1 << 6 {
		for _, docs := range [][]int{{1, 1, 1, 1, 1, 1}, {1, 2, 1, 2, 2, 1}, {2, 2, 3, 3, 1, 0}} {
			for _, c := range []api.Tier{tier(2, 4), tier(2, 9), tier(3, 5), tier(3, 9), tier(6, 64)} {
				for n := 1; n <= 7; n++ {
					wantAll(t, busyAt(plain(docs...), mask), c, n)
				}
			}
		}
	}
	all := busyAt(sizes("1:9/9 2:9/8 3:1 4:1"), 15)
	wantTiered(t, all, tier(2, 64), "")
	wantLogs(t, all, tier(2, 64), "")
	wantForce(t, all, 1, "")
	wantUntil(t, all, tier(2, 64), false, shown(all), 0)
	wantUntil(t, all, tier(2, 64), true, shown(all), 0)
}

// P12.4: of more than n the first ones are proposed, as many as are more, and one; then those that have dead.
func TestForce(t *testing.T) {
	l := sizes("5:3 2:10/6 9:2 7:1! 4:3/1 8:2/2")
	wantForce(t, l, 1, "5 2 9 4 8")
	wantForce(t, l, 2, "5 2 9 4,8")
	wantForce(t, l, 3, "5 2 9,4,8")
	wantForce(t, l, 4, "5 2,4,8")
	wantForce(t, l, 5, "2,4,8")
	wantForce(t, l, 6, "2,4,8")
	wantForce(t, l, math.MaxInt, "2,4,8")
	for _, n := range []int{0, -1, -2, -16, math.MinInt, math.MinInt + 1} {
		wantForce(t, l, n, "")
		wantForce(t, sizes("1:1 2:1"), n, "")
		wantForce(t, sizes("1:2/1"), n, "")
		wantForce(t, nil, n, "")
	}
	wantForce(t, nil, 1, "")
	wantForce(t, sizes("1:1"), 1, "")
	wantForce(t, sizes("1:64/1"), 1, "1")
	wantForce(t, sizes("1:64/64"), 1, "1")
	wantForce(t, sizes("1:64/1!"), 1, "")
	wantForce(t, sizes("1:64 2:64"), 1, "1 2") // as many documents as there are: After may refuse it
	wantForce(t, sizes("2:0 1:0"), 1, "2 1")
	wantForce(t, sizes("9:1! 2:1 8:1! 1:1 7:1! 3:1/1 6:1!"), 1, "2 1 3")
	wantForce(t, sizes("9:1! 2:1 8:1! 1:1 7:1! 3:1/1 6:1!"), 2, "2 1,3")
	wantForce(t, sizes("9:1! 2:1 8:1! 1:1 7:1! 3:1/1 6:1!"), 3, "3")
	wantForce(t, sizes("9:1! 2:1 8:1! 1:1 7:1! 3:1/1 6:1!"), 4, "3")
}

// P12.4: whoever is busy, n of one less, as many and one more than are idle, and from 1 to above 16.
func TestForceToAll(t *testing.T) {
	l := sizes("7:1 3:2/1 12:0 1:3/3 2:9 4:9/5 5:1 6:1")
	for mask := range 1 << 8 {
		for n := 1; n <= 18; n++ {
			m := busyAt(l, mask)
			if p, want := policy.Force(m, n), forceOf(m, n); !same(p, want) {
				t.Errorf("Force(%s; %d): %s; want %s", shown(m), n, told(p), told(want))
			}
		}
	}
	long := plain(slices.Repeat([]int{1}, 16)...)
	wantForce(t, long, 1, "1 2 3 4 5 6 7 8 9 10 11 12 13 14 15 16")
	wantForce(t, long, 2, "1 2 3 4 5 6 7 8 9 10 11 12 13 14 15")
	wantForce(t, long, 14, "1 2 3")
	wantForce(t, long, 15, "1 2")
	wantForce(t, long, 16, "")
	wantForce(t, long, 17, "")
}

// P12.5: the one that is made stands where the first one stood, in the order of l, has the next Gen, what lives, no dead, and is idle.
func TestAfter(t *testing.T) {
	l := sizes("5:3 2:10/6 9:2/2 4:3/1")
	wantAfter(t, l, nil, "5:3 2:10/6 9:2/2 4:3/1")
	wantAfter(t, l, [][]int{}, "5:3 2:10/6 9:2/2 4:3/1")
	wantAfter(t, l, proposals("4 2"), "5:3 10:6 9:2/2")
	wantAfter(t, l, proposals("2 4"), "5:3 10:6 9:2/2")
	wantAfter(t, l, proposals("4 5"), "10:5 2:10/6 9:2/2")
	wantAfter(t, l, proposals("5"), "10:3 2:10/6 9:2/2 4:3/1")
	wantAfter(t, l, proposals("4"), "5:3 2:10/6 9:2/2 10:2")
	wantAfter(t, l, proposals("5 2 9 4"), "10:9")
	wantAfter(t, l, proposals("4 9 2 5"), "10:9")
	wantAfter(t, l, proposals("2 9"), "5:3 10:4 4:3/1")
	wantAfter(t, l, proposals("9 5"), "10:3 2:10/6 4:3/1")
	wantAfter(t, sizes("3:1! 2:2/1! 1:1!"), proposals("2 1"), "3:1! 4:2")
	wantAfter(t, sizes("3:1! 2:2/1! 1:1!"), nil, "3:1! 2:2/1! 1:1!")
	wantAfter(t, sizes("1:1! 7:7/7!"), proposals("1"), "8:1 7:7/7!")
	wantAfter(t, nil, nil, "")
}

// P12.5: several are done one behind the other, each with the next Gen; the order of them tells the Gens, not the places.
func TestAfterSeveral(t *testing.T) {
	l := sizes("5:3 2:10/6 9:2/2 4:3/1")
	wantAfter(t, l, proposals("5,2,4"), "10:3 11:4 9:2/2 12:2")
	wantAfter(t, l, proposals("4,2,5"), "12:3 11:4 9:2/2 10:2")
	wantAfter(t, l, proposals("5 4,2 9"), "10:5 11:4")
	wantAfter(t, l, proposals("9 2,4 5"), "11:5 10:4")
	wantAfter(t, l, proposals("2,5 4"), "11:5 10:4 9:2/2")
	wantAfter(t, l, proposals("4 9,5 2"), "11:7 10:2")
	long := plain(1, 2, 3, 4, 5, 6, 7, 8, 9, 10, 11, 12, 13, 14, 15, 16)
	wantAfter(t, long, proposals("1 16,2 15,3 14,4 13,5 12,6 11,7 10,8 9"), "17:17 18:17 19:17 20:17 21:17 22:17 23:17 24:17")
	wantAfter(t, long, proposals("16,15,14,13,12,11,10,9,8,7,6,5,4,3,2,1"), "32:1 31:2 30:3 29:4 28:5 27:6 26:7 25:8 24:9 23:10 22:11 21:12 20:13 19:14 18:15 17:16")
	wantAfter(t, long, proposals("1 2 3 4 5 6 7 8 9 10"), "17:55 11:11 12:12 13:13 14:14 15:15 16:16")
}

// P12.5: where nothing lives nothing comes, yet its Gen is not given again; nor is that of the greatest, though it is gone.
func TestAfterWhereNothingLives(t *testing.T) {
	l := sizes("5:3 2:10/6 9:2/2 4:3/1")
	wantAfter(t, l, proposals("9"), "5:3 2:10/6 4:3/1")
	wantAfter(t, l, proposals("9,5 4"), "11:5 2:10/6")
	wantAfter(t, l, proposals("5,9,4"), "10:3 2:10/6 12:2")
	wantAfter(t, sizes("1:0"), proposals("1"), "")
	wantAfter(t, sizes("1:0 2:64/64 3:0!"), proposals("1 2"), "3:0!")
	wantAfter(t, sizes("1:0 2:64/64 3:0"), proposals("3,2,1"), "")
	wantAfter(t, sizes("1:0 2:64/64 3:1"), proposals("3 2 1"), "4:1")
	wantAfter(t, sizes("1:0 2:64/64 3:1"), proposals("2,1,3"), "6:1")
	wantAfter(t, sizes("1:1 8:0 3:1"), proposals("8,3"), "1:1 10:1")
	wantAfter(t, sizes("1:1 8:3 3:1"), proposals("8 1,3"), "9:4 10:1")
	wantAfter(t, sizes("8:0 1:1 3:1"), proposals("8 3"), "9:1 1:1")
	wantAfter(t, sizes("1:1 2:0"), nil, "1:1 2:0")
}

// P12.5: nothing, if a proposal has no Gens, wherever it stands.
func TestAfterWithoutGens(t *testing.T) {
	l := sizes("5:3 2:10/6 9:2/2 4:3/1")
	for _, p := range [][][]int{{nil}, {{}}, {{5}, {}}, {{}, {5}}, {{5}, nil, {2}}, {{5, 2, 9, 4}, {}}, {{9}, {}}, make([][]int, 100000)} {
		if x := policy.After(l, p); len(x) != 0 {
			t.Errorf("After of %d: %s", len(p), shown(x))
		}
	}
	wantAfter(t, nil, [][]int{nil}, "")
}

// P12.5: nothing, if one is none of l, also where an earlier proposal made it, or if one stands in p twice.
func TestAfterOfNone(t *testing.T) {
	l := sizes("5:3 2:10/6 9:2/2 4:3/1")
	for _, text := range []string{
		"3", "5 3", "3 5", "5,3", "3,5", "0", "-1", "10", "5,10", "5 2,10", "5,10 2", "5,2,11", "9,10", "5,11", "34359738368", "9223372036854775807", "-9223372036854775808", "4294967301",
		"5 5", "5,5", "5 2 5", "2 5 5", "5 2,4 5", "5,4 5", "9,9", "9 9", "5,2,4,5", "5 2 9 4,5", "5 2 9 4 5", "5 5 5", "2,4,4",
	} {
		wantAfter(t, l, proposals(text), "")
	}
	wantAfter(t, nil, proposals("1"), "")
	wantAfter(t, l, [][]int{slices.Repeat([]int{5}, 100000)}, "")
	wantAfter(t, l, slices.Repeat([][]int{{5}}, 100000), "")
}

// P12.5: 64 documents may be, 65 not, counted by what lives; one that is of no proposal does not count.
func TestAfterOfManyDocuments(t *testing.T) {
	wantAfter(t, sizes("1:40 2:24"), proposals("1 2"), "3:64")
	wantAfter(t, sizes("1:40 2:25"), proposals("1 2"), "")
	wantAfter(t, sizes("1:40 2:25"), proposals("1,2"), "3:40 4:25")
	wantAfter(t, sizes("1:40 2:64/40"), proposals("1 2"), "3:64")
	wantAfter(t, sizes("1:40 2:64/39"), proposals("1 2"), "")
	wantAfter(t, sizes("1:64 2:64/64"), proposals("1 2"), "3:64")
	wantAfter(t, sizes("1:64 2:0"), proposals("2 1"), "3:64")
	wantAfter(t, sizes("1:64 2:1"), proposals("1 2"), "")
	wantAfter(t, sizes("1:64 2:64 3:1"), proposals("3,1"), "5:64 2:64 4:1")
	wantAfter(t, sizes("1:64 2:64 3:1"), proposals("3,1 2"), "")
	wantAfter(t, sizes("1:64 2:64 3:1"), proposals("1 2,3"), "")
	wantAfter(t, plain(slices.Repeat([]int{4}, 16)...), proposals("1 2 3 4 5 6 7 8 9 10 11 12 13 14 15 16"), "17:64")
	wantAfter(t, plain(append(slices.Repeat([]int{4}, 15), 5)...), proposals("1 2 3 4 5 6 7 8 9 10 11 12 13 14 15 16"), "")
	wantAfter(t, plain(slices.Repeat([]int{64}, 16)...), proposals("1 2 3 4 5 6 7 8 9 10 11 12 13 14 15 16"), "")
	for docs := range 65 {
		for most := range 65 {
			wantDone(t, []api.Size{{Gen: 9, Docs: 64, Dead: docs}, {Gen: 8, Docs: most}}, [][]int{{8, 9}})
		}
	}
}

// P12.5: the Gen 2^35 - 1 may come, one above it not, also where nothing lives in what would have it.
func TestAfterOfGreatGens(t *testing.T) {
	wantAfter(t, sizes("34359738366:1 2:1"), proposals("2"), "34359738366:1 34359738367:1")
	wantAfter(t, sizes("34359738366:1 2:1"), proposals("34359738366"), "34359738367:1 2:1")
	wantAfter(t, sizes("34359738366:1 2:1"), proposals("2,34359738366"), "")
	wantAfter(t, sizes("34359738366:1/1 2:1"), proposals("34359738366,2"), "")
	wantAfter(t, sizes("34359738366:1/1 2:1"), proposals("2,34359738366"), "")
	wantAfter(t, sizes("34359738366:1/1 2:1"), proposals("34359738366"), "2:1")
	wantAfter(t, sizes("34359738367:1 2:1"), nil, "34359738367:1 2:1")
	wantAfter(t, sizes("34359738367:1 2:1"), proposals("2"), "")
	wantAfter(t, sizes("34359738367:1 2:1"), proposals("34359738367"), "")
	wantAfter(t, sizes("34359738367:1 2:1"), proposals("2 34359738367"), "")
	wantAfter(t, sizes("34359738367:1/1 2:1"), proposals("34359738367"), "")
	wantAfter(t, sizes("34359738367:1! 2:0"), proposals("2"), "")
	wantAfter(t, sizes("34359738365:1 2:1 3:1 4:1"), proposals("2,3"), "34359738365:1 34359738366:1 34359738367:1 4:1")
	wantAfter(t, sizes("34359738365:1 2:1 3:1 4:1"), proposals("2,3,4"), "")
	wantAfter(t, sizes("1:1 2:1 34359738351:1 3:1"), proposals("2"), "1:1 34359738352:1 34359738351:1 3:1")
}

// ways are all rows of at most three Gens, in at most three proposals, each of at least no Gens.
func ways(gens []int) [][][]int {
	rows := [][]int{{}}
	for i := 0; i < len(rows) && len(rows[i]) < 3; i++ {
		for _, g := range gens {
			rows = append(rows, append(slices.Clone(rows[i]), g))
		}
	}
	out := [][][]int{{}}
	for _, row := range rows {
		for a := range len(row) + 1 {
			for b := a; b <= len(row); b++ {
				out = append(out, [][]int{row[:a], row[a:b], row[b:]}, [][]int{row[:a], row[a:]}, [][]int{row})
			}
		}
	}
	return out
}

// P12.5: of all short proposals of Gens that are there, that come, and others, just what the words say is told.
func TestAfterOfAllShort(t *testing.T) {
	for _, text := range []string{"3:2 1:4/1 7:1/1", "7:3/3! 3:2/1! 1:0", "1:40 3:24 7:1", "34359738365:1 3:9/9 1:2"} {
		l := sizes(text)
		gens := []int{1, 2, 3, 7, 8, 9}
		if l[0].Gen > 10 {
			gens = []int{1, 3, l[0].Gen, l[0].Gen + 1, l[0].Gen + 2}
		}
		for _, p := range ways(gens) {
			wantDone(t, l, p)
		}
	}
}

// P12.5: what is proposed is done again and again, till there is no proposal, and it is told how many times.
func TestUntil(t *testing.T) {
	m := sizes("1:1 2:1 3:1 4:1 5:8/5")
	wantUntil(t, m, tier(2, 64), false, "9:4 8:3", 2)
	wantUntil(t, m, tier(2, 64), true, "9:4 8:3", 2)
	wantUntil(t, plain(1, 1, 1, 1), tier(2, 64), false, "7:4", 2)
	wantUntil(t, plain(1, 1, 1, 1), tier(2, 64), true, "7:4", 2)
	wantUntil(t, plain(1, 1, 1, 1), tier(2, 3), false, "5:2 6:2", 1)
	wantUntil(t, plain(1, 1, 1, 1), tier(2, 3), true, "5:2 6:2", 1)
	wantUntil(t, plain(1, 1, 1, 1, 1, 1, 1, 1), tier(2, 64), false, "15:8", 3)
	wantUntil(t, plain(1, 1, 1, 1, 1, 1, 1, 1), tier(3, 64), false, "9:3 10:3 7:1 8:1", 1)
	wantUntil(t, plain(1, 1, 1, 1, 1, 1, 1, 1, 1), tier(3, 64), true, "13:9", 2)
	wantUntil(t, plain(1, 5, 1), tier(2, 9), false, "4:2 2:5", 1)
	wantUntil(t, plain(1, 5, 1), tier(2, 9), true, "1:1 2:5 3:1", 0)
	wantUntil(t, plain(1, 5, 1, 3), tier(2, 9), false, "6:5 2:5", 2)
	wantUntil(t, plain(1, 1, 2, 4, 8, 16, 32), tier(2, 64), false, "13:64", 6)
	wantUntil(t, plain(1, 1, 2, 4, 8, 16, 32), tier(2, 64), true, "13:64", 6)
	wantUntil(t, plain(32, 16, 8, 4, 2, 1, 1), tier(2, 63), false, "1:32 12:32", 5)
	wantUntil(t, plain(3, 3, 2), tier(2, 5), false, "1:3 2:3 3:2", 0)
	wantUntil(t, plain(3, 3, 2), tier(2, 5), true, "1:3 4:5", 1)
	wantUntil(t, sizes("1:1 2:1! 3:1"), tier(2, 9), false, "4:2 2:1!", 1)
	wantUntil(t, sizes("1:1 2:1! 3:1"), tier(2, 9), true, "1:1 2:1! 3:1", 0)
	wantUntil(t, sizes("1:2 2:5/5 3:2"), tier(2, 9), true, "4:4", 2) // what nothing came of is gone: its number is free again
	wantUntil(t, sizes("1:2 2:5/5 3:2"), tier(2, 9), false, "4:4", 1)
	wantUntil(t, sizes("1:9/5"), tier(2, 9), false, "2:4", 1)
	wantUntil(t, sizes("1:8/4"), tier(2, 9), false, "1:8/4", 0)
	wantUntil(t, nil, tier(2, 9), false, "", 0)
	wantUntil(t, nil, tier(2, 9), true, "", 0)
}

// P12.5: where nobody lives nothing is left, and the time counts; what has no documents and is of no proposal stays.
func TestUntilNobodyLives(t *testing.T) {
	for _, logs := range []bool{false, true} {
		wantUntil(t, sizes("1:2/2"), tier(2, 9), logs, "", 1)
		wantUntil(t, sizes("1:2/2 2:64/64"), tier(2, 1), logs, "", 1)
		wantUntil(t, sizes("1:2/2 2:64/64 3:1/1"), tier(2, 1), logs, "", 1)
		wantUntil(t, sizes("1:2/2 2:64/64 3:0"), tier(2, 1), logs, "3:0", 1)
		wantUntil(t, sizes("1:2/2 2:64/64! 3:0"), tier(3, 1), logs, "2:64/64! 3:0", 1)
		wantUntil(t, sizes("1:0"), tier(2, 9), logs, "1:0", 0)
		wantUntil(t, sizes("1:0 2:0"), tier(2, 9), logs, "", 1)
		wantUntil(t, sizes("1:0 2:0 3:0"), tier(2, 9), logs, "3:0", 1)
		wantUntil(t, sizes("1:2/2!"), tier(2, 9), logs, "1:2/2!", 0)
		wantUntil(t, sizes("1:2/2 2:64"), tier(2, 9), logs, "2:64", 1)
		wantUntil(t, sizes("1:2/2 2:64/63 3:2/2"), tier(2, 9), logs, "4:1", 1)
	}
}

// P12.5: where After tells nothing though some live the sizes are those ahead; where nobody lives it is as if all were gone.
func TestUntilAfterTellsNothing(t *testing.T) {
	for _, logs := range []bool{false, true} {
		wantUntil(t, sizes("34359738367:1 1:1"), tier(2, 9), logs, "34359738367:1 1:1", 0)
		wantUntil(t, sizes("34359738367:3/2"), tier(2, 9), logs, "34359738367:3/2", 0)
		wantUntil(t, sizes("34359738367:9 1:5/5"), tier(2, 9), logs, "34359738367:9 1:5/5", 0)
		wantUntil(t, sizes("34359738367:9! 1:5/5"), tier(2, 9), logs, "34359738367:9! 1:5/5", 0)
		wantUntil(t, sizes("34359738367:9"), tier(2, 9), logs, "34359738367:9", 0)
		wantUntil(t, sizes("34359738366:1 1:1"), tier(2, 9), logs, "34359738367:2", 1)
		wantUntil(t, sizes("34359738366:1 1:1 2:1 3:1"), tier(2, 9), logs, "34359738366:1 1:1 2:1 3:1", 0)
		wantUntil(t, sizes("34359738365:1 1:1 2:1 3:1"), tier(2, 9), logs, "34359738366:2 34359738367:2", 1)
		wantUntil(t, sizes("34359738364:1 1:1 2:1 3:1"), tier(2, 9), logs, "34359738367:4", 2)
		wantUntil(t, sizes("34359738365:1 1:1 2:2 3:4"), tier(2, 9), logs, "34359738367:4 3:4", 2)
		wantUntil(t, sizes("34359738367:5/5"), tier(2, 9), logs, "", 1)
		wantUntil(t, sizes("34359738367:5/5 1:2/2 2:3/3"), tier(2, 9), logs, "", 1)
	}
}

// kinds are unlike things that a segment may be: what lives and is dead of levels and shares, idle and busy.
func kinds() []api.Size {
	return []api.Size{{}, {Docs: 1}, {Docs: 1, Dead: 1}, {Docs: 2}, {Docs: 3, Dead: 2}, {Docs: 3}, {Docs: 4, Dead: 2}, {Docs: 5, Dead: 1}, {Docs: 2, Busy: true}, {Docs: 3, Dead: 3, Busy: true}}
}

// P12.2 to P12.5: all rows of at most four unlike things are told of as the words say.
func TestAllShort(t *testing.T) {
	rows := [][]api.Size{{}}
	for i := 0; i < len(rows) && len(rows[i]) < 4; i++ {
		for _, s := range kinds() {
			s.Gen = 9 - 2*len(rows[i])
			rows = append(rows, append(slices.Clone(rows[i]), s))
		}
	}
	for i, l := range rows {
		wantAll(t, l, tier(2, 1+i%7), 1+i%5)
		wantAll(t, l, tier(3, 1+i%11), 1+i%4)
	}
}

// dealt are sizes that happen to be: of Gens that are not in order, of which the greatest is least or more, with documents up to most.
func dealt(dice *rand.Rand, least, most int) []api.Size {
	many := dice.Intn(17)
	var l []api.Size
	dead, busy := dice.Intn(4), dice.Intn(5)
	for _, i := range dice.Perm(20)[:many] {
		s := api.Size{Gen: least - i, Docs: dice.Intn(most + 1)}
		if dice.Intn(4) < dead {
			s.Dead = dice.Intn(s.Docs + 1)
		}
		s.Busy = dice.Intn(8) < busy
		l = append(l, s)
	}
	return l
}

// P12.2 to P12.5: so are longer ones that happen to be, of few and many documents, under any policy, with great Gens.
func TestDealt(t *testing.T) {
	dice := rand.New(rand.NewSource(12))
	for range 20000 {
		least := []int{20, 1000, top - 12, top - 3, top - 1, top}[dice.Intn(6)]
		l := dealt(dice, least, []int{1, 2, 3, 5, 9, 20, 64}[dice.Intn(7)])
		wantAll(t, l, tier(2+dice.Intn(7), 1+dice.Intn(64)), 1+dice.Intn(18))
		wantAll(t, l, tier(2+dice.Intn(2), 1+dice.Intn(64)), 1+dice.Intn(4))
	}
}

// lawful asks that proposals are of unlike idle segments of l, each in their order: of two at least, or of one that has dead.
func lawful(t *testing.T, what string, l []api.Size, p [][]int) {
	t.Helper()
	seen := map[int]int{}
	for _, gens := range p {
		at := -1
		for _, gen := range gens {
			i := slices.IndexFunc(l, func(s api.Size) bool { return s.Gen == gen })
			if seen[gen]++; seen[gen] > 1 || i <= at || l[max(i, 0)].Busy {
				t.Errorf("%s of %s: %s", what, shown(l), told(p))
				return
			}
			at = i
		}
		if len(gens) == 0 || len(gens) == 1 && l[at].Dead == 0 {
			t.Errorf("%s of %s: %s", what, shown(l), told(p))
		}
	}
}

// P12.6: what is proposed may be done, whatever the policy; Until ends, with no proposal left, and with all that lived.
func TestProposalsAreLawful(t *testing.T) {
	dice := rand.New(rand.NewSource(13))
	for range 20000 {
		l := dealt(dice, 20, []int{1, 2, 3, 5, 9, 20, 64}[dice.Intn(7)])
		c, n := tier(2+dice.Intn(7), 1+dice.Intn(64)), 1+dice.Intn(17)
		lawful(t, "Tiered", l, policy.Tiered(l, c))
		lawful(t, "Logs", l, policy.Logs(l, c))
		lawful(t, "Force", l, policy.Force(l, n))
		forced(t, l, n)
		for _, logs := range []bool{false, true} {
			ended(t, l, c, logs)
		}
	}
}

// living is what lives of all together.
func living(l []api.Size) int {
	many := 0
	for _, s := range l {
		many += s.Docs - s.Dead
	}
	return many
}

// ended asks that Until ends in time, where there is nothing to do, and that nothing is lost by it.
func ended(t *testing.T, l []api.Size, c api.Tier, logs bool) {
	t.Helper()
	x, n := policy.Until(l, c, logs)
	left := policy.Tiered(x, c)
	if logs {
		left = policy.Logs(x, c)
	}
	if n < 0 || n > len(l) || len(left) != 0 || len(x) > len(l) || living(x) != living(l) || !policy.May(x) || n == 0 && !slices.Equal(x, l) {
		t.Errorf("Until(%s; %v, %t): %s, %d; left %s", shown(l), c, logs, shown(x), n, told(left))
	}
	for _, s := range x {
		if !s.Busy && moreThanHalf(s) {
			t.Errorf("Until(%s; %v, %t): %s", shown(l), c, logs, shown(x))
		}
	}
}

// forced asks that behind what Force proposes there are at most n idle segments, none of which has dead, if it may be done.
func forced(t *testing.T, l []api.Size, n int) {
	t.Helper()
	x, idle := policy.After(l, policy.Force(l, n)), 0
	if len(x) == 0 {
		return
	}
	for _, s := range x {
		if !s.Busy {
			idle++
		}
		if !s.Busy && s.Dead > 0 {
			t.Errorf("Force(%s; %d), and After: %s", shown(l), n, shown(x))
		}
	}
	if idle > n || living(x) != living(l) {
		t.Errorf("Force(%s; %d), and After: %s", shown(l), n, shown(x))
	}
}

// P12.6: as many times as there are segments, and one less, are needed, but never more.
func TestUntilTakesLongest(t *testing.T) {
	wantUntil(t, sizes("1:3/2"), tier(2, 64), false, "2:1", 1)
	wantUntil(t, sizes("1:4/3 2:1! 3:4/3"), tier(2, 64), false, "4:2 2:1!", 1)
	wantUntil(t, sizes("1:4 2:8/5"), tier(2, 64), false, "1:4 3:3", 1)
	wantUntil(t, sizes("1:1 2:1 3:2 4:4 5:8 6:16 7:64/32"), tier(2, 64), false, "13:64", 6)
	for _, c := range someTiers() {
		for n := range 17 {
			for _, docs := range []int{0, 1, 2, 3, 4} {
				l := plain(slices.Repeat([]int{docs}, n)...)
				ended(t, l, c, false)
				ended(t, l, c, true)
			}
		}
	}
}

// all are what each call answers, of which the lists are told, so that they may be held against each other.
type all struct {
	tiered, logs, force [][]int
	after, until, runs  []api.Size
}

// asked are the answers of all calls.
func asked(l []api.Size, c api.Tier, n int, p [][]int) all {
	a := all{tiered: policy.Tiered(l, c), logs: policy.Logs(l, c), force: policy.Force(l, n), after: policy.After(l, p)}
	a.until, _ = policy.Until(l, c, false)
	a.runs, _ = policy.Until(l, c, true)
	policy.May(l)
	return a
}

// text tells all answers.
func (a all) text() string {
	return strings.Join([]string{told(a.tiered), told(a.logs), told(a.force), shown(a.after), shown(a.until), shown(a.runs)}, "; ")
}

// spoil changes all that the answers have, up to what there is room for.
func (a all) spoil() {
	for _, p := range [][][]int{a.tiered, a.logs, a.force} {
		for i, gens := range p {
			gens = gens[:cap(gens)]
			for k := range gens {
				gens[k] = -77
			}
			p[i] = append(p[i][:0], -78)
		}
		p = p[:cap(p)]
		for i := range p {
			p[i] = []int{-79}
		}
	}
	for _, l := range [][]api.Size{a.after, a.until, a.runs} {
		l = l[:cap(l)]
		for i := range l {
			l[i] = api.Size{Gen: -80, Docs: -80, Dead: -80, Busy: true}
		}
	}
}

// ordinary are sizes of which most calls propose something, and some of which nothing is.
func ordinary() [][]api.Size {
	return [][]api.Size{
		sizes("5:3 2:10/6 9:2 7:1! 4:3/1 8:2/2"), sizes("1:1 2:1 3:1 4:1 5:8/5"), plain(1, 5, 1), sizes("1:64 2:64/3!"), sizes("1:9 2:1"), sizes("3:2/2"), sizes("4:0"), nil,
		plain(1, 1, 1, 1, 2, 2, 2, 2, 1, 1, 1, 1, 2, 2, 2, 2), busyAt(plain(1, 1, 1, 1), 15),
	}
}

// R3: what is handed in stays as it was.
func TestHandedInStays(t *testing.T) {
	for _, l := range ordinary() {
		for _, p := range [][][]int{nil, tieredOf(l, tier(2, 9)), forceOf(l, 1), {{1, 2}, {3}}, {{}}, {{99}}} {
			mine, ours := slices.Clone(l), copied(p)
			asked(mine, tier(2, 9), 1, ours)
			asked(mine, tier(3, 9), 2, ours)
			if !slices.Equal(mine, l) || !same(ours, p) {
				t.Errorf("%s, %s became %s, %s", shown(l), told(p), shown(mine), told(ours))
			}
		}
	}
}

// R3: later changes of what was handed in change nothing of the answers, and changes of these nothing of it, or of later answers.
func TestAnswersAreNew(t *testing.T) {
	for _, l := range ordinary() {
		for _, c := range []api.Tier{tier(2, 9), tier(8, 1)} {
			for _, p := range [][][]int{nil, tieredOf(l, c), forceOf(l, 1)} {
				mine, ours := slices.Clone(l), copied(p)
				a := asked(mine, c, 2, ours)
				want := a.text()
				for i := range mine {
					mine[i] = api.Size{Gen: -1, Docs: -1, Dead: -1, Busy: true}
				}
				for _, gens := range ours {
					for i := range gens {
						gens[i] = -2
					}
				}
				if a.text() != want {
					t.Errorf("%s: %s; became %s", shown(l), want, a.text())
				}
				mine, ours = slices.Clone(l), copied(p)
				a = asked(mine, c, 2, ours)
				a.spoil()
				if again := asked(mine, c, 2, ours).text(); again != want || !slices.Equal(mine, l) || !same(ours, p) {
					t.Errorf("%s: %s; then %s", shown(l), want, again)
				}
			}
		}
	}
}

// R3: the lists of one answer share nothing: what is changed, or added behind one, changes no other.
func TestListsAreApart(t *testing.T) {
	for _, l := range ordinary() {
		for _, tell := range []func() [][]int{
			func() [][]int { return policy.Tiered(l, tier(2, 9)) }, func() [][]int { return policy.Logs(l, tier(2, 9)) }, func() [][]int { return policy.Force(l, 2) },
		} {
			want := tell()
			for i := range want {
				p := tell()
				gens := p[i][:cap(p[i])]
				for k := range gens {
					gens[k] = -1
				}
				_ = append(p[i], -2, -3)
				for k := range p {
					if k != i && !slices.Equal(p[k], want[k]) {
						t.Errorf("%s: %s; became %s", shown(l), told(want), told(p))
					}
				}
			}
		}
	}
}

// R3: what lies behind a list's length is neither read nor changed.
func TestBehindTheLength(t *testing.T) {
	for _, l := range ordinary() {
		for _, p := range [][][]int{nil, tieredOf(l, tier(2, 9)), forceOf(l, 1)} {
			want := asked(l, tier(2, 9), 2, p).text()
			wide := append(slices.Clone(l), sizes("71:1 72:1 73:9/9 1:1")...)
			var long [][]int
			for _, gens := range p {
				long = append(long, append(slices.Clone(gens), 71, 72)[:len(gens)])
			}
			more := append(long, []int{71}, []int{72, 73})
			if got := asked(wide[:len(l)], tier(2, 9), 2, more[:len(p)]).text(); got != want {
				t.Errorf("%s: %s; want %s", shown(l), got, want)
			}
			if shown(wide[len(l):]) != "71:1 72:1 73:9/9 1:1" || told(more[len(p):]) != "(71),(72 73)" {
				t.Errorf("%s: behind it %s, %s", shown(l), shown(wide[len(l):]), told(more[len(p):]))
			}
			for i, gens := range more[:len(p)] {
				if told([][]int{gens[:len(gens)+2]}) != told([][]int{append(slices.Clone(p[i]), 71, 72)}) {
					t.Errorf("%s: behind %d", shown(l), i)
				}
			}
		}
	}
}

// R6: lists without elements are the same, nil or empty.
func TestEmptyLists(t *testing.T) {
	for _, l := range [][]api.Size{nil, {}} {
		if !policy.May(l) {
			t.Error("May of none")
		}
		for _, p := range [][][]int{nil, {}} {
			wantNothing(t, l, tier(2, 9), 1, p)
		}
	}
	wantAfter(t, sizes("1:1"), nil, "1:1")
	wantAfter(t, sizes("1:1"), [][]int{}, "1:1")
}

// R5: what is asked again is answered the same, whatever was asked between.
func TestAgain(t *testing.T) {
	var first []string
	for round := range 3 {
		for i, l := range ordinary() {
			text := asked(l, tier(2, 9), 2, tieredOf(l, tier(2, 9))).text()
			if round == 0 {
				first = append(first, text)
			} else if first[i] != text {
				t.Errorf("%s: %s; then %s", shown(l), first[i], text)
			}
			asked(sizes("1:1 1:1"), tier(0, 0), -1, [][]int{{}})
			asked(l, tier(3, 64), 1, nil)
		}
	}
}

// R1: numbers of all kinds, at every place, end without a panic.
func TestAnyNumbers(t *testing.T) {
	dice := rand.New(rand.NewSource(14))
	odd := []int{math.MinInt, math.MinInt + 1, -1 << 35, -65, -1, 0, 1, 2, 3, 8, 9, 16, 17, 63, 64, 65, 1 << 31, 1 << 32, top - 1, top, top + 1, math.MaxInt - 1, math.MaxInt}
	one := func() int { return odd[dice.Intn(len(odd))] }
	for range 50000 {
		var l []api.Size
		for range dice.Intn(5) {
			s := api.Size{Gen: one(), Docs: one(), Dead: one(), Busy: dice.Intn(4) == 0}
			if dice.Intn(3) > 0 {
				s = api.Size{Gen: 1 + dice.Intn(9), Docs: dice.Intn(9), Busy: dice.Intn(4) == 0}
			}
			l = append(l, s)
		}
		var p [][]int
		for range dice.Intn(4) {
			var gens []int
			for range dice.Intn(4) {
				gens = append(gens, one())
			}
			p = append(p, gens)
		}
		c, n := tier(one(), one()), one()
		asked(l, c, n, p)
		if !policy.May(l) {
			wantNothing(t, l, c, n, p)
			continue
		}
		wantDone(t, l, p)
		if n >= 1 && !same(policy.Force(l, n), forceOf(l, n)) || n < 1 && len(policy.Force(l, n)) > 0 {
			t.Errorf("Force(%s; %d): %s", shown(l), n, told(policy.Force(l, n)))
		}
	}
}
