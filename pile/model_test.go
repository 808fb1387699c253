package pile_test

import (
	"bytes"
	"math/rand"
	"reflect"
	"slices"
	"sort"
	"strconv"
	"strings"
	"testing"

	"catchword/api"
	"catchword/pile"
	"catchword/seg"
	"catchword/shelf"
)

// act is something that is done to a pile.
type act struct {
	Kind string // add, del, flush, start, finish or abort
	C    api.Card
	Id   string
	Gens []int
	Gen  int
}

func card(id string, key int, w ...string) api.Card { return api.Card{Id: id, Key: key, W: w} }

func add(c api.Card) act                          { return act{Kind: "add", C: c} }
func put(id string, key int, words ...string) act { return add(card(id, key, words...)) }
func del(id string) act                           { return act{Kind: "del", Id: id} }
func flush() act                                  { return act{Kind: "flush"} }
func start(gens ...int) act                       { return act{Kind: "start", Gens: gens} }
func finish(gen int) act                          { return act{Kind: "finish", Gen: gen} }
func abort(gen int) act                           { return act{Kind: "abort", Gen: gen} }

// acts are those of a script: `add x 5 a b; del x; flush; start 1 2; finish 3; abort 4`.
func acts(script string) []act {
	var l []act
	for _, line := range strings.Split(script, ";") {
		f := strings.Fields(line)
		var n []int
		for _, word := range f[1:] {
			i, _ := strconv.Atoi(word)
			n = append(n, i)
		}
		switch f[0] {
		case "add":
			l = append(l, put(f[1], n[1], f[3:]...))
		case "del":
			l = append(l, del(f[1]))
		case "flush":
			l = append(l, flush())
		case "start":
			l = append(l, start(n...))
		case "finish":
			l = append(l, finish(n[0]))
		case "abort":
			l = append(l, abort(n[0]))
		default:
			panic(f[0])
		}
	}
	return l
}

// do does it by the package; what Del refuses is told as ErrNone, or as ErrArg, if the pile may not be.
func (a act) do(p api.Pile) (api.Pile, api.Errno) {
	switch a.Kind {
	case "add":
		return pile.Add(p, a.C)
	case "del":
		q, is := pile.Del(p, a.Id)
		if is {
			return q, api.OK
		}
		if !mayOf(p) {
			return q, api.ErrArg
		}
		return q, api.ErrNone
	case "flush":
		return pile.Flush(p)
	case "start":
		return pile.Start(p, a.Gens)
	case "finish":
		return pile.Finish(p, a.Gen)
	}
	return pile.Abort(p, a.Gen)
}

// on does to a shelf what is done to a pile.
func (a act) on(t *testing.T, l []api.Card) []api.Card {
	t.Helper()
	var e api.Errno
	switch a.Kind {
	case "add":
		if l, e = shelf.Put(l, a.C); e != api.OK {
			t.Fatalf("Put of %q: %d", a.C.Id, e)
		}
	case "del":
		l, _ = shelf.Del(l, a.Id)
	}
	return l
}

// told is a value as a text that an error may tell.
func told(v any) string {
	text := row(v, false)
	if len(text) > 600 {
		return text[:600] + ".."
	}
	return text
}

// row is all of a value as a text; whole: also what lies behind the lists' lengths.
func row(v any, whole bool) string {
	var out []byte
	var tell func(v reflect.Value)
	tell = func(v reflect.Value) {
		switch v.Kind() {
		case reflect.Struct:
			out = append(out, '{')
			for i := range v.NumField() {
				tell(v.Field(i))
			}
			out = append(out, '}')
		case reflect.Slice:
			out = append(strconv.AppendInt(out, int64(v.Len()), 10), '[')
			if whole {
				v = v.Slice(0, v.Cap())
			}
			for i := range v.Len() {
				tell(v.Index(i))
			}
			out = append(out, ']')
		case reflect.String:
			out = append(strconv.AppendQuote(out, v.String()), ' ')
		case reflect.Bool:
			out = append(strconv.AppendBool(out, v.Bool()), ' ')
		default:
			out = append(strconv.AppendInt(out, v.Int(), 10), ' ')
		}
	}
	tell(reflect.ValueOf(v))
	return string(out)
}

// same tells whether all parts of two values are the same, a list without elements being nil or empty.
func same(a, b any) bool { return row(a, false) == row(b, false) }

// some is a value of a type that would be noticed if it were read.
func some(of reflect.Type) reflect.Value {
	v := reflect.New(of).Elem()
	switch of.Kind() {
	case reflect.Struct:
		for i := range of.NumField() {
			v.Field(i).Set(some(of.Field(i).Type))
		}
	case reflect.Slice:
		v.Set(reflect.Append(v, some(of.Elem())))
	case reflect.String:
		v.SetString("x")
	case reflect.Bool:
		v.SetBool(true)
	default:
		v.SetInt(1)
	}
	return v
}

// copyOf is the same value in new memory, with so many more elements behind each list's length.
func copyOf(v reflect.Value, room int) reflect.Value {
	switch v.Kind() {
	case reflect.Struct:
		out := reflect.New(v.Type()).Elem()
		for i := range v.NumField() {
			out.Field(i).Set(copyOf(v.Field(i), room))
		}
		return out
	case reflect.Slice:
		out := reflect.MakeSlice(v.Type(), 0, v.Len()+room)
		for i := range v.Len() {
			out = reflect.Append(out, copyOf(v.Index(i), room))
		}
		more := out
		for range room {
			more = reflect.Append(more, some(v.Type().Elem()))
		}
		return out
	}
	return v
}

// copied is the same value, of which nothing is shared.
func copied[T any](v T) T { return copyOf(reflect.ValueOf(&v).Elem(), 0).Interface().(T) }

// roomy is the same value, of which nothing is shared, and behind whose lists something lies.
func roomy[T any](v T) T { return copyOf(reflect.ValueOf(&v).Elem(), 2).Interface().(T) }

// each calls look with all values of which a value is made, also with those that lie behind a list's length.
func each(v reflect.Value, look func(v reflect.Value)) {
	look(v)
	switch v.Kind() {
	case reflect.Struct:
		for i := range v.NumField() {
			each(v.Field(i), look)
		}
	case reflect.Slice:
		v = v.Slice(0, v.Cap())
		for i := range v.Len() {
			each(v.Index(i), look)
		}
	}
}

// share tells whether any two lists of all these values have memory together.
func share(values ...any) bool {
	type span struct{ from, to uintptr }
	var l []span
	for _, v := range values {
		each(reflect.ValueOf(v), func(v reflect.Value) {
			if v.Kind() == reflect.Slice && v.Cap() > 0 {
				l = append(l, span{v.Pointer(), v.Pointer() + uintptr(v.Cap())*v.Type().Elem().Size()})
			}
		})
	}
	sort.Slice(l, func(i, k int) bool { return l[i].from < l[k].from })
	for i := 1; i < len(l); i++ {
		if l[i].from < l[i-1].to {
			return true
		}
	}
	return false
}

// scribble changes all elements of all lists of a value.
func scribble(v any) {
	each(reflect.ValueOf(v), func(v reflect.Value) {
		if v.Kind() != reflect.Slice {
			return
		}
		for i := range v.Len() {
			each(v.Index(i), func(v reflect.Value) {
				switch v.Kind() {
				case reflect.String:
					v.SetString(v.String() + "z")
				case reflect.Bool:
					v.SetBool(!v.Bool())
				case reflect.Int:
					v.SetInt(v.Int() + 1)
				}
			})
		}
	})
}

// From here to cardsOf the chapter's words are worked out a second time.

func mayCard(c api.Card) bool {
	for _, w := range c.W {
		if len(w) == 0 || len(w) > 32 {
			return false
		}
	}
	return len(c.Id) != 0 && len(c.Id) <= 16 && c.Key >= 0 && c.Key <= 1073741824 && len(c.W) <= 120
}

// wordsIn is how many unlike words cards have.
func wordsIn(l []api.Card) int {
	words := map[string]bool{}
	for _, c := range l {
		for _, w := range c.W {
			words[w] = true
		}
	}
	return len(words)
}

// buildable tells whether there is a segment of cards.
func buildable(l []api.Card) bool {
	ids := map[string]bool{}
	for _, c := range l {
		if !mayCard(c) || ids[c.Id] {
			return false
		}
		ids[c.Id] = true
	}
	return len(l) <= 64 && wordsIn(l) <= 200
}

// standing is where the part of that number stands; -1, if there is none.
func standing(p api.Pile, gen int) int {
	for i := range p.Parts {
		if p.Parts[i].Gen == gen {
			return i
		}
	}
	return -1
}

func mayPart(p api.Pile, part api.Part) bool {
	return part.Gen >= 1 && part.Gen < p.Next && seg.May(part.S) && part.S.Sorted == p.C.Sort && len(part.Live) == len(part.S.Ids)
}

// mayJob is asked only of piles whose parts may be.
func mayJob(p api.Pile, j api.Job) bool {
	if j.Gen < 1 || j.Gen >= p.Next || len(j.From) == 0 || len(j.Was) != len(j.From) {
		return false
	}
	ahead := -1
	var were []api.Card
	for i, gen := range j.From {
		at := standing(p, gen)
		if at <= ahead {
			return false
		}
		ahead = at
		if len(j.Was[i]) != len(p.Parts[at].Live) {
			return false
		}
		for doc, c := range seg.Cards(p.Parts[at].S) {
			if j.Was[i][doc] {
				were = append(were, c)
			} else if p.Parts[at].Live[doc] {
				return false
			}
		}
	}
	return buildable(were)
}

func mayOf(p api.Pile) bool {
	if p.C.Room < 1 || p.C.Room > 64 || p.Next < 1 || p.Next > 1073741824 || len(p.Buf) > p.C.Room || !buildable(p.Buf) || len(p.Parts) > 16 {
		return false
	}
	gens, from, ids := map[int]int{}, map[int]int{}, map[string]int{}
	for _, part := range p.Parts {
		if !mayPart(p, part) {
			return false
		}
		gens[part.Gen]++
		for doc, id := range part.S.Ids {
			if part.Live[doc] {
				ids[id]++
			}
		}
	}
	for _, c := range p.Buf {
		ids[c.Id]++
	}
	for _, j := range p.Jobs {
		if !mayJob(p, j) {
			return false
		}
		gens[j.Gen]++
		for _, gen := range j.From {
			if from[gen]++; from[gen] > 1 {
				return false
			}
		}
	}
	for _, n := range gens {
		if n > 1 {
			return false
		}
	}
	for _, n := range ids {
		if n > 1 {
			return false
		}
	}
	return true
}

// without is a pile in which there is no card of id, neither in the buffer nor living in a part, and how many there were.
func without(p api.Pile, id string) (api.Pile, int) {
	q, gone := copied(p), 0
	q.Buf = nil
	for _, c := range p.Buf {
		if c.Id != id {
			q.Buf = append(q.Buf, c)
		} else {
			gone++
		}
	}
	for _, part := range q.Parts {
		for doc := range part.Live {
			if part.Live[doc] && part.S.Ids[doc] == id {
				part.Live[doc] = false
				gone++
			}
		}
	}
	return q, gone
}

func addOf(p api.Pile, c api.Card) (api.Pile, api.Errno) {
	if !mayCard(c) {
		return p, api.ErrArg
	}
	q, _ := without(p, c.Id)
	if len(q.Buf) == q.C.Room {
		return p, api.ErrFull
	}
	if q.Buf = append(q.Buf, c); wordsIn(q.Buf) > 200 {
		return p, api.ErrLimit
	}
	return q, api.OK
}

func flushOf(p api.Pile) (api.Pile, api.Errno) {
	switch {
	case len(p.Buf) == 0:
		return p, api.ErrNone
	case len(p.Parts) == 16:
		return p, api.ErrFull
	case p.Next == 1073741824:
		return p, api.ErrLimit
	}
	s, _ := seg.Build(p.Buf, p.C.Sort)
	q := copied(p)
	q.Parts = append(q.Parts, api.Part{Gen: p.Next, S: s, Live: slices.Repeat([]bool{true}, len(p.Buf))})
	q.Buf, q.Next = nil, p.Next+1
	return q, api.OK
}

func busyOf(p api.Pile, gen int) bool {
	for _, j := range p.Jobs {
		if slices.Contains(j.From, gen) {
			return true
		}
	}
	return false
}

func startOf(p api.Pile, gens []int) (api.Pile, api.Errno) {
	often, none, busy := map[int]int{}, false, false
	for _, gen := range gens {
		often[gen]++
		none = none || standing(p, gen) < 0
		busy = busy || busyOf(p, gen)
	}
	j := api.Job{Gen: p.Next}
	var left []api.Card
	for _, part := range p.Parts {
		if often[part.Gen] == 0 {
			continue
		}
		j.From, j.Was = append(j.From, part.Gen), append(j.Was, slices.Clone(part.Live))
		for doc, c := range seg.Cards(part.S) {
			if part.Live[doc] {
				left = append(left, c)
			}
		}
	}
	switch {
	case len(gens) == 0 || len(often) < len(gens):
		return p, api.ErrArg
	case none:
		return p, api.ErrNone
	case busy:
		return p, api.ErrBusy
	case p.Next == 1073741824 || len(left) > 64 || wordsIn(left) > 200:
		return p, api.ErrLimit
	}
	q := copied(p)
	q.Jobs, q.Next = append(q.Jobs, j), p.Next+1
	return q, api.OK
}

// jobOf is the pile without the job, and it.
func jobOf(p api.Pile, gen int) (api.Pile, api.Job, bool) {
	q := copied(p)
	for i, j := range q.Jobs {
		if j.Gen == gen {
			q.Jobs = append(q.Jobs[:i], q.Jobs[i+1:]...)
			return q, j, true
		}
	}
	return p, api.Job{}, false
}

// finishOf tells who lives by asking of each id whether it lives in the job's parts now.
func finishOf(p api.Pile, gen int) (api.Pile, api.Errno) {
	q, j, is := jobOf(p, gen)
	if !is {
		return p, api.ErrNone
	}
	var were []api.Card
	lives := map[string]bool{}
	for i, from := range j.From {
		part := p.Parts[standing(p, from)]
		for doc, c := range seg.Cards(part.S) {
			if j.Was[i][doc] {
				were = append(were, c)
			}
			if part.Live[doc] {
				lives[c.Id] = true
			}
		}
	}
	one := api.Part{Gen: gen}
	one.S, _ = seg.Build(were, p.C.Sort)
	for _, id := range one.S.Ids {
		one.Live = append(one.Live, lives[id])
	}
	q.Parts = nil
	for _, part := range p.Parts {
		if part.Gen == j.From[0] && len(were) > 0 {
			q.Parts = append(q.Parts, one)
		}
		if !slices.Contains(j.From, part.Gen) {
			q.Parts = append(q.Parts, part)
		}
	}
	return q, api.OK
}

// of is what must be answered.
func (a act) of(p api.Pile) (api.Pile, api.Errno) {
	if !mayOf(p) {
		return p, api.ErrArg
	}
	switch a.Kind {
	case "add":
		return addOf(p, a.C)
	case "del":
		q, gone := without(p, a.Id)
		if gone == 0 {
			return p, api.ErrNone
		}
		return q, api.OK
	case "flush":
		return flushOf(p)
	case "start":
		return startOf(p, a.Gens)
	case "finish":
		return finishOf(p, a.Gen)
	}
	q, _, is := jobOf(p, a.Gen)
	if !is {
		return p, api.ErrNone
	}
	return q, api.OK
}

func sizesOf(p api.Pile) []api.Size {
	if !mayOf(p) {
		return nil
	}
	var l []api.Size
	for _, part := range p.Parts {
		size := api.Size{Gen: part.Gen, Docs: len(part.S.Ids), Busy: busyOf(p, part.Gen)}
		for _, is := range part.Live {
			if !is {
				size.Dead++
			}
		}
		l = append(l, size)
	}
	return l
}

func cardsOf(p api.Pile) []api.Card {
	if !mayOf(p) {
		return nil
	}
	l := copied(p.Buf)
	for _, part := range p.Parts {
		for doc := range part.Live {
			if c, _ := seg.Card(part.S, doc); part.Live[doc] {
				l = append(l, c)
			}
		}
	}
	sort.Slice(l, func(i, k int) bool { return bytes.Compare([]byte(l[i].Id), []byte(l[k].Id)) < 0 })
	return l
}

// wantDo asks for what is worked out a second time, and that nothing is changed or shared by it.
func wantDo(t *testing.T, p api.Pile, a act) (api.Pile, api.Errno) {
	t.Helper()
	in, arg := roomy(p), roomy(a)
	was, wasArg := row(in, true), row(arg, true)
	want, wantE := a.of(p)
	got, e := arg.do(in)
	if e != wantE || !same(got, want) {
		t.Fatalf("%s of %s: %d, %s; want %d, %s", told(a), told(p), e, told(got), wantE, told(want))
	}
	if e != api.OK && !same(got, p) {
		t.Fatalf("%s of %s: %d, and %s", told(a), told(p), e, told(got))
	}
	if pile.May(got) != mayOf(p) {
		t.Fatalf("%s of %s: may it be? %s", told(a), told(p), told(got))
	}
	if row(in, true) != was || row(arg, true) != wasArg {
		t.Fatalf("%s of %s: changed", told(a), told(p))
	}
	if share(in, arg.C, arg.Gens, got) {
		t.Fatalf("%s of %s: two lists share memory", told(a), told(p))
	}
	return got, e
}

// wantTold asks May, Sizes and Cards for what is worked out a second time, and that nothing is changed or shared by it.
func wantTold(t *testing.T, p api.Pile) {
	t.Helper()
	in := roomy(p)
	was := row(in, true)
	if is := pile.May(in); is != mayOf(p) {
		t.Fatalf("May of %s: %t", told(p), is)
	}
	sizes, cards := pile.Sizes(in), pile.Cards(in)
	if !same(sizes, sizesOf(p)) {
		t.Fatalf("Sizes of %s: %s", told(p), told(sizes))
	}
	if !same(cards, cardsOf(p)) {
		t.Fatalf("Cards of %s: %s; want %s", told(p), told(cards), told(cardsOf(p)))
	}
	if !pile.Same(in, p) || !pile.Same(p, in) {
		t.Fatalf("Same of %s and itself", told(p))
	}
	if row(in, true) != was {
		t.Fatalf("%s: changed by being asked", told(p))
	}
	if share(in, sizes, cards) {
		t.Fatalf("%s: two lists share memory", told(p))
	}
}

// fresh is a pile in which nothing is.
func fresh(t *testing.T, sorted bool, room int) api.Pile {
	t.Helper()
	p, is := pile.New(api.Conf{Sort: sorted, Room: room})
	if !is {
		t.Fatalf("New of %d", room)
	}
	return p
}

// played is a pile to which all of it was done, without an error.
func played(t *testing.T, p api.Pile, l ...act) api.Pile {
	t.Helper()
	for i, a := range l {
		var e api.Errno
		if p, e = wantDo(t, p, a); e != api.OK {
			t.Fatalf("%d, %s: %d", i, told(a), e)
		}
	}
	wantTold(t, p)
	return p
}

// wantError asks that something is refused by this error.
func wantError(t *testing.T, p api.Pile, a act, e api.Errno) {
	t.Helper()
	if _, got := wantDo(t, p, a); got != e {
		t.Errorf("%s of %s: %d; want %d", told(a), told(p), got, e)
	}
}

// wantNone asks that a pile may not be, and that each call tells that first of all.
func wantNone(t *testing.T, what string, p api.Pile) {
	t.Helper()
	if pile.May(p) || mayOf(p) {
		t.Errorf("%s: it may not be: %s", what, told(p))
	}
	if sizes, cards := pile.Sizes(p), pile.Cards(p); len(sizes)+len(cards) != 0 {
		t.Errorf("%s: %s, %s", what, told(sizes), told(cards))
	}
	wantTold(t, p)
	l := []act{put("new", 1, "w"), put("a", 1), put("", 1), del("a"), del("new"), del(""), flush(), start(), start(2), start(1, 1), start(99), finish(0)}
	for gen := range 9 {
		l = append(l, start(gen), finish(gen), abort(gen))
	}
	for _, a := range l {
		wantError(t, p, a, api.ErrArg)
	}
}

// numbered are unlike words, as many as many says, from the first number on.
func numbered(first, many int) []string {
	var l []string
	for i := range many {
		l = append(l, "w"+strconv.Itoa(first+i))
	}
	return l
}

// tag is the id of a number, each above those of lesser numbers, if it is below 10000.
func tag(number int) string { return "i" + strconv.Itoa(10000 + number)[1:] }

// puts are adds of cards with the tags from the first number on, as many as many says, without words.
func puts(first, many int) []act {
	var l []act
	for i := range many {
		l = append(l, put(tag(first+i), (first+i)*53%19))
	}
	return l
}

// twist changes one thing in a pile, as it happens: a number, a text, a bool, or how many a list has, or their order.
func twist(dice *rand.Rand, p api.Pile) api.Pile {
	p = copied(p)
	var l []reflect.Value
	each(reflect.ValueOf(&p).Elem(), func(v reflect.Value) {
		if v.Kind() != reflect.Struct {
			l = append(l, v)
		}
	})
	v := l[dice.Intn(len(l))]
	switch v.Kind() {
	case reflect.Int:
		v.SetInt([]int64{v.Int() - 1, v.Int() + 1, int64(dice.Intn(12)), 0, -1, 65, 1 << 30, 1<<30 + 1}[dice.Intn(8)])
	case reflect.Bool:
		v.SetBool(!v.Bool())
	case reflect.String:
		v.SetString([]string{"", "x", "y", v.String() + "z", strings.Repeat("z", 33)}[dice.Intn(5)])
	case reflect.Slice:
		twistList(dice, v)
	}
	return p
}

func twistList(dice *rand.Rand, v reflect.Value) {
	n := v.Len()
	switch {
	case n == 0 || dice.Intn(4) == 0:
		v.Set(reflect.Append(v, some(v.Type().Elem())))
	case dice.Intn(3) == 0:
		v.Set(v.Slice(0, n-1))
	case dice.Intn(2) == 0:
		v.Set(reflect.Append(v, copyOf(v.Index(dice.Intn(n)), 0)))
	default:
		i, k := dice.Intn(n), dice.Intn(n)
		one, other := copyOf(v.Index(i), 0), copyOf(v.Index(k), 0)
		v.Index(i).Set(other)
		v.Index(k).Set(one)
	}
}
