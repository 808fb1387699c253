package pile_test

import (
	"math"
	"math/rand"
	"slices"
	"strconv"
	"strings"
	"testing"

	"catchword/api"
	"catchword/pile"
	"catchword/seg"
	"catchword/shelf"
)

// busyPile has all that a pile may have: cards in the buffer, five parts, of which 1 and 3 are in the job 6, 4 in the job 7, and of which b died since the one was started, and c is dead in 2 and in the buffer.
func busyPile(t *testing.T, sorted bool) api.Pile {
	t.Helper()
	return played(t, fresh(t, sorted, 3), acts("add a 5 q; add b 3 q r; flush; add c 1 s s; flush; add d 7; add e 2 q; flush; add f 4 t; flush; add g 6; flush; start 3 1; del b; start 4; add c 9; add h 1 q")...)
}

// partOf is a part of these cards, in which those live of whose places lives tells x.
func partOf(t *testing.T, gen int, sorted bool, lives string, l ...api.Card) api.Part {
	t.Helper()
	s, e := seg.Build(l, sorted)
	if e != api.OK || len(lives) != len(l) {
		t.Fatalf("%d: Build of %s: %d", gen, told(l), e)
	}
	part := api.Part{Gen: gen, S: s}
	for i := range lives {
		part.Live = append(part.Live, lives[i] == 'x')
	}
	return part
}

// bare are cards without words, of these ids.
func bare(ids ...string) []api.Card {
	var l []api.Card
	for _, id := range ids {
		l = append(l, card(id, 0))
	}
	return l
}

// tags are the ids of numbers from the first on, as many as many says.
func tags(first, many int) []string {
	var l []string
	for i := range many {
		l = append(l, tag(first+i))
	}
	return l
}

// of is a pile that may be, of these parts alone.
func of(t *testing.T, sorted bool, next int, parts ...api.Part) api.Pile {
	t.Helper()
	p := api.Pile{C: api.Conf{Sort: sorted, Room: 2}, Parts: parts, Next: next}
	wantTold(t, p)
	if !pile.May(p) {
		t.Fatalf("it may be: %s", told(p))
	}
	return p
}

// manyParts is a pile of so many parts of one document each.
func manyParts(t *testing.T, many, next int) api.Pile {
	t.Helper()
	var l []api.Part
	for i := range many {
		l = append(l, partOf(t, i+1, false, "x", card(tag(i), i)))
	}
	return of(t, false, next, l...)
}

// The chapter's example, and that of the whole.
func TestExample(t *testing.T) {
	for _, sorted := range []bool{false, true} {
		p := played(t, fresh(t, sorted, 1), acts("add x 1 old; flush; add y 2; flush; start 1 2; add x 3 new; finish 3")...)
		want := api.Pile{C: api.Conf{Sort: sorted, Room: 1}, Buf: []api.Card{card("x", 3, "new")}, Next: 4, Parts: []api.Part{partOf(t, 3, sorted, ".x", card("x", 1, "old"), card("y", 2))}}
		if !pile.Same(p, want) || !same(p, want) {
			t.Errorf("%s; want %s", told(p), told(want))
		}
		if l := pile.Cards(p); !same(l, []api.Card{card("x", 3, "new"), card("y", 2)}) {
			t.Error(told(l))
		}
		if l := pile.Sizes(p); !same(l, []api.Size{{Gen: 3, Docs: 2, Dead: 1}}) {
			t.Error(told(l))
		}
	}
}

// P14.1: a new pile, and what may not be one.
func TestNew(t *testing.T) {
	for _, sorted := range []bool{false, true} {
		for _, room := range []int{1, 2, 3, 32, 63, 64} {
			p, is := pile.New(api.Conf{Sort: sorted, Room: room})
			if want := (api.Pile{C: api.Conf{Sort: sorted, Room: room}, Next: 1}); !is || !same(p, want) || !pile.May(p) {
				t.Errorf("%d: %t, %s", room, is, told(p))
			}
			wantTold(t, p)
		}
		for _, room := range []int{0, -1, -64, 65, 66, 128, 1 << 30, 1<<32 + 1, math.MinInt, math.MaxInt} {
			if p, is := pile.New(api.Conf{Sort: sorted, Room: room}); is || !same(p, api.Pile{}) {
				t.Errorf("%d: %t, %s", room, is, told(p))
			}
		}
	}
}

// P14.1: piles that may just be.
func TestMay(t *testing.T) {
	for _, sorted := range []bool{false, true} {
		for what, f := range map[string]func(p *api.Pile){
			"as it is":                       func(p *api.Pile) {},
			"Room as great as Buf":           func(p *api.Pile) { p.C.Room = 2 },
			"Room 64":                        func(p *api.Pile) { p.C.Room = 64 },
			"Next 2^30":                      func(p *api.Pile) { p.Next = 1 << 30 },
			"no buffer":                      func(p *api.Pile) { p.Buf = nil },
			"a buffer in another order":      func(p *api.Pile) { slices.Reverse(p.Buf) },
			"a buffer of edge cards":         func(p *api.Pile) { p.Buf = edgeCards() },
			"no jobs":                        func(p *api.Pile) { p.Jobs = nil },
			"jobs in another order":          func(p *api.Pile) { slices.Reverse(p.Jobs) },
			"the least Gens":                 func(p *api.Pile) { p.Jobs = p.Jobs[:1]; p.Parts = p.Parts[:3]; p.Next = 7 },
			"Gens that fall":                 func(p *api.Pile) { p.Jobs = nil; slices.Reverse(p.Parts) },
			"great Gens":                     func(p *api.Pile) { p.Next, p.Parts[1].Gen, p.Jobs[0].Gen = 1<<30, 1<<30-1, 1<<30-2 },
			"nobody lives":                   func(p *api.Pile) { p.Parts[0].Live, p.Parts[4].Live = []bool{false, false}, []bool{false} },
			"b lives again, as in Was":       func(p *api.Pile) { p.Parts[0].Live = []bool{true, true} },
			"nobody lived, and nobody lives": func(p *api.Pile) { p.Parts[3].Live, p.Jobs[1].Was = []bool{false}, [][]bool{{false}} },
			"a part without documents":       func(p *api.Pile) { p.Parts[4].S, p.Parts[4].Live = api.Seg{Sorted: sorted}, nil },
			"its id dead in two parts":       func(p *api.Pile) { p.Parts[4] = partOf(t, 5, sorted, ".", card("c", 4)) },
			"lives in one, dead in another":  func(p *api.Pile) { p.Parts[4] = partOf(t, 5, sorted, "x", card("b", 4)) },
			"a job of a part with nobody":    func(p *api.Pile) { p.Parts[3].Live = []bool{false} },
			"a job of a part of no documents": func(p *api.Pile) {
				p.Parts[3].S, p.Parts[3].Live, p.Jobs[1].Was = api.Seg{Sorted: sorted}, nil, [][]bool{nil}
			},
			"a job of all parts": func(p *api.Pile) {
				p.Jobs = []api.Job{{Gen: 6, From: []int{1, 2, 3, 4, 5}, Was: [][]bool{{true, true}, {true}, {true, true}, {true}, {true}}}}
			},
			"a job of each part": func(p *api.Pile) {
				p.Jobs = nil
				for i, part := range p.Parts {
					p.Jobs = append(p.Jobs, api.Job{Gen: 9 + i, From: []int{part.Gen}, Was: [][]bool{slices.Clone(part.Live)}})
				}
				p.Next = 14
			},
			"sixteen parts": func(p *api.Pile) { p.Next, p.Parts = 99, append(p.Parts, more(t, sorted, 11)...) },
		} {
			p := busyPile(t, sorted)
			f(&p)
			if !pile.May(p) || !mayOf(p) {
				t.Errorf("%s: it may be: %s", what, told(p))
			}
			wantTold(t, p)
			for _, a := range acts("add new 1 w; add a 1 w; add c 3; add b 3; del a; del b; del c; del none; flush; start 2; start 2 5; start 1; start 5 2; finish 6; finish 7; abort 6; abort 7; finish 1; abort 8") {
				wantDo(t, p, a)
			}
		}
	}
}

// edgeCards are cards that may just be.
func edgeCards() []api.Card {
	return []api.Card{card("\xff", 1<<30, slices.Repeat([]string{"w"}, 120)...), card(strings.Repeat("\x00", 16), 0, strings.Repeat("\xff", 32)), card("new", 7, numbered(0, 120)...)}
}

// more are so many parts of a document each, with Gens from 20 on.
func more(t *testing.T, sorted bool, many int) []api.Part {
	var l []api.Part
	for i := range many {
		l = append(l, partOf(t, 20+i, sorted, "x", card(tag(i), 1)))
	}
	return l
}

// wrongs are changes of busyPile by which one sentence of the chapter's words is broken.
func wrongs(t *testing.T, sorted bool) map[string]func(p *api.Pile) {
	out := map[string]func(p *api.Pile){
		"Room 0":                    func(p *api.Pile) { p.C.Room = 0 },
		"Room 0, no buffer":         func(p *api.Pile) { p.C.Room, p.Buf = 0, nil },
		"Room 65":                   func(p *api.Pile) { p.C.Room = 65 },
		"the least Room":            func(p *api.Pile) { p.C.Room, p.Buf = math.MinInt, nil },
		"the greatest Room":         func(p *api.Pile) { p.C.Room = math.MaxInt },
		"Room of 2^32 and 3":        func(p *api.Pile) { p.C.Room = 1<<32 + 3 },
		"Room less than Buf":        func(p *api.Pile) { p.C.Room = 1 },
		"Next 0":                    func(p *api.Pile) { p.Next = 0 },
		"Next 0, and no more":       func(p *api.Pile) { p.Next, p.Parts, p.Jobs = 0, nil, nil },
		"Next -1":                   func(p *api.Pile) { p.Next = -1 },
		"Next 2^30 + 1":             func(p *api.Pile) { p.Next = 1<<30 + 1 },
		"the least Next":            func(p *api.Pile) { p.Next = math.MinInt },
		"the greatest Next":         func(p *api.Pile) { p.Next = math.MaxInt },
		"Next a job's Gen":          func(p *api.Pile) { p.Next = 7 },
		"Next a part's Gen":         func(p *api.Pile) { p.Next, p.Jobs = 5, nil },
		"Buf of two of an id":       func(p *api.Pile) { p.Buf[1].Id = "c" },
		"Buf of 201 words":          func(p *api.Pile) { p.Buf[0].W, p.Buf[1].W = numbered(0, 120), numbered(120, 81) },
		"17 parts":                  func(p *api.Pile) { p.Next, p.Parts = 99, append(p.Parts, more(t, sorted, 12)...) },
		"very many parts":           func(p *api.Pile) { p.Next, p.Parts = 9999, append(p.Parts, more(t, sorted, 300)...) },
		"a Gen of 0":                func(p *api.Pile) { p.Parts[1].Gen = 0 },
		"a Gen of -1":               func(p *api.Pile) { p.Parts[4].Gen = -1 },
		"the least Gen":             func(p *api.Pile) { p.Parts[4].Gen = math.MinInt },
		"a Gen of Next":             func(p *api.Pile) { p.Parts[1].Gen = p.Next },
		"the greatest Gen":          func(p *api.Pile) { p.Parts[4].Gen = math.MaxInt },
		"a Gen twice":               func(p *api.Pile) { p.Parts[4].Gen = 2 },
		"a Gen twice, no jobs":      func(p *api.Pile) { p.Jobs, p.Parts[4].Gen = nil, 4 },
		"a Gen twice, of a job's":   func(p *api.Pile) { p.Parts[4].Gen = 1 },
		"a segment without a key":   func(p *api.Pile) { p.Parts[1].S.Keys = nil },
		"a segment of a key of -1":  func(p *api.Pile) { p.Parts[3].S.Keys[0] = -1 },
		"a segment of other words":  func(p *api.Pile) { p.Parts[0].S.Terms = p.Parts[0].S.Terms[1:] },
		"a segment of a free place": func(p *api.Pile) { p.Parts[4].S.Lens[0]++ },
		"a segment of an empty id":  func(p *api.Pile) { p.Parts[1].S.Ids[0] = "" },
		"a segment without ids":     func(p *api.Pile) { p.Parts[1].S.Ids, p.Parts[1].Live = nil, nil },
		"a segment of an id twice": func(p *api.Pile) {
			p.Parts[1].S = api.Seg{Ids: []string{"c", "c"}, Keys: []int{1, 2}, Lens: []int{0, 0}, Sorted: sorted}
			p.Parts[1].Live = []bool{false, false}
		},
		"a segment of 65": func(p *api.Pile) {
			p.Parts[1].S = api.Seg{Ids: tags(0, 65), Keys: make([]int, 65), Lens: make([]int, 65), Sorted: sorted}
			p.Parts[1].Live = make([]bool, 65)
		},
		"one is Sorted otherwise":       func(p *api.Pile) { p.Parts[1].S.Sorted = !sorted },
		"the last is Sorted otherwise":  func(p *api.Pile) { p.Parts[4].S.Sorted = !sorted },
		"Sort is otherwise":             func(p *api.Pile) { p.C.Sort = !sorted },
		"an empty one Sorted otherwise": func(p *api.Pile) { p.Parts[4] = partOf(t, 5, !sorted, "") },
		"a Live of none":                func(p *api.Pile) { p.Parts[1].Live = nil },
		"a Live too short":              func(p *api.Pile) { p.Parts[0].Live = p.Parts[0].Live[:1] },
		"a Live too short, as Was": func(p *api.Pile) {
			p.Parts[0].Live, p.Jobs[0].Was[0] = p.Parts[0].Live[:1], p.Jobs[0].Was[0][:1]
		},
		"a Live too long":              func(p *api.Pile) { p.Parts[4].Live = []bool{true, false} },
		"a Live without documents":     func(p *api.Pile) { p.Parts[4].S = api.Seg{Sorted: sorted} },
		"an id in Buf and in a part":   func(p *api.Pile) { p.Buf[1].Id = "g" },
		"c lives again":                func(p *api.Pile) { p.Parts[1].Live[0] = true },
		"an id in Buf and a busy part": func(p *api.Pile) { p.Buf[0].Id = "f" },
		"an id in two parts":           func(p *api.Pile) { p.Parts[4] = partOf(t, 5, sorted, "x", card("a", 9)) },
		"an id in two idle parts": func(p *api.Pile) {
			p.Buf = nil
			p.Parts[1].Live[0] = true
			p.Parts[4] = partOf(t, 5, sorted, "x", card("c", 1, "s", "s"))
		},
		"a job's Gen of 0":            func(p *api.Pile) { p.Jobs[0].Gen = 0 },
		"a job's Gen of -1":           func(p *api.Pile) { p.Jobs[1].Gen = -1 },
		"a job's Gen of Next":         func(p *api.Pile) { p.Jobs[1].Gen = p.Next },
		"a job's greatest Gen":        func(p *api.Pile) { p.Jobs[0].Gen = math.MaxInt },
		"a job's Gen that of another": func(p *api.Pile) { p.Jobs[1].Gen = 6 },
		"a job's Gen that of a part":  func(p *api.Pile) { p.Jobs[0].Gen = 2 },
		"a job's Gen one of From":     func(p *api.Pile) { p.Jobs[1].Gen = 4 },
		"From that is empty":          func(p *api.Pile) { p.Jobs[0].From, p.Jobs[0].Was = nil, nil },
		"From that is empty, not Was": func(p *api.Pile) { p.Jobs[1].From = []int{} },
		"an empty job":                func(p *api.Pile) { p.Jobs = append(p.Jobs, api.Job{}) },
		"an empty job of a Gen":       func(p *api.Pile) { p.Next, p.Jobs = 9, append(p.Jobs, api.Job{Gen: 8}) },
		"From that names no part":     func(p *api.Pile) { p.Jobs[1].From[0] = 99 },
		"From that names 0":           func(p *api.Pile) { p.Jobs[0].From[0] = 0 },
		"From that names its own":     func(p *api.Pile) { p.Jobs[1].From[0] = 7 },
		"From with one that is none":  func(p *api.Pile) { p.Jobs[0].From[1] = -3 },
		"From in another order":       func(p *api.Pile) { slices.Reverse(p.Jobs[0].From); slices.Reverse(p.Jobs[0].Was) },
		"From by parts otherwise":     func(p *api.Pile) { p.Parts[0], p.Parts[2] = p.Parts[2], p.Parts[0] },
		"From with one twice": func(p *api.Pile) {
			p.Parts[3].Live[0] = false
			p.Jobs[1] = api.Job{Gen: 7, From: []int{4, 4}, Was: [][]bool{{true}, {false}}}
		},
		"From with one twice, dead": func(p *api.Pile) {
			p.Parts[3].Live[0] = false
			p.Jobs[1] = api.Job{Gen: 7, From: []int{4, 4}, Was: [][]bool{{false}, {false}}}
		},
		"From of another job": func(p *api.Pile) {
			p.Jobs[1].From, p.Jobs[1].Was = []int{3, 4}, [][]bool{{true, true}, {true}}
		},
		"the same job once more":     func(p *api.Pile) { p.Next, p.Jobs = 9, append(p.Jobs, p.Jobs[0]); p.Jobs[2].Gen = 8 },
		"Was of none":                func(p *api.Pile) { p.Jobs[1].Was = nil },
		"Was of one list less":       func(p *api.Pile) { p.Jobs[0].Was = p.Jobs[0].Was[:1] },
		"Was of one list more":       func(p *api.Pile) { p.Jobs[1].Was = append(p.Jobs[1].Was, nil) },
		"Was of a list too short":    func(p *api.Pile) { p.Jobs[0].Was[0] = p.Jobs[0].Was[0][:1] },
		"Was of a list too long":     func(p *api.Pile) { p.Jobs[1].Was[0] = []bool{true, true} },
		"Was of an empty list":       func(p *api.Pile) { p.Jobs[0].Was[1] = nil },
		"Was not of one that lives":  func(p *api.Pile) { p.Jobs[1].Was[0][0] = false },
		"Was not of one of two":      func(p *api.Pile) { p.Jobs[0].Was[1][1] = false },
		"Was not of the first":       func(p *api.Pile) { p.Jobs[0].Was[1][0] = false },
		"Was of two of an id":        func(p *api.Pile) { wereTwo(t, p, sorted) },
		"Was of 65":                  func(p *api.Pile) { wereMany(t, p, sorted, 65) },
		"Was of 201 words":           func(p *api.Pile) { wereWordy(t, p, sorted, 201) },
		"a wrong job behind a right": func(p *api.Pile) { p.Jobs[0], p.Jobs[1] = p.Jobs[1], p.Jobs[0]; p.Jobs[1].Was[0] = nil },
	}
	for what, c := range wrongCards() {
		out["Buf of a card with "+what] = func(p *api.Pile) { p.Buf[1] = c }
	}
	return out
}

// wrongCards are cards that may not be.
func wrongCards() map[string]api.Card {
	return map[string]api.Card{
		"no Id":                card("", 1, "w"),
		"an Id of 17 bytes":    card(strings.Repeat("x", 17), 1, "w"),
		"a very long Id":       card(strings.Repeat("x", 1<<16), 1),
		"a Key of -1":          card("new", -1),
		"a Key of 2^30 + 1":    card("new", 1<<30+1),
		"the least Key":        card("a", math.MinInt),
		"the greatest Key":     card("c", math.MaxInt),
		"121 words":            card("new", 1, slices.Repeat([]string{"w"}, 121)...),
		"201 unlike words":     card("new", 1, numbered(0, 201)...),
		"very many words":      card("new", 1, slices.Repeat([]string{"w"}, 3000)...),
		"an empty word":        card("new", 1, "w", "", "v"),
		"a word of 33 bytes":   card("a", 1, strings.Repeat("w", 33)),
		"a wrong word, the Id": card("c", 1, append(numbered(0, 119), strings.Repeat("w", 33))...),
		"nothing":              {},
	}
}

// wereTwo lets a job be of two parts in which x lived at once, and is dead in the one now.
func wereTwo(t *testing.T, p *api.Pile, sorted bool) {
	p.Parts = []api.Part{partOf(t, 1, sorted, ".", card("x", 1)), partOf(t, 2, sorted, "x", card("x", 2))}
	p.Jobs = []api.Job{{Gen: 3, From: []int{1, 2}, Was: [][]bool{{true}, {true}}}}
}

// wereMany lets a job be of two parts in which so many lived at once.
func wereMany(t *testing.T, p *api.Pile, sorted bool, many int) {
	p.Parts = []api.Part{partOf(t, 1, sorted, strings.Repeat("x", 64), bare(tags(0, 64)...)...), partOf(t, 2, sorted, strings.Repeat("x", many-64), bare(tags(64, many-64)...)...)}
	p.Jobs = []api.Job{{Gen: 3, From: []int{1, 2}, Was: [][]bool{slices.Repeat([]bool{true}, 64), slices.Repeat([]bool{true}, many-64)}}}
}

// wereWordy lets a job be of two parts which have so many unlike words together, of which half are dead now.
func wereWordy(t *testing.T, p *api.Pile, sorted bool, many int) {
	p.Parts = []api.Part{partOf(t, 1, sorted, "x", card("x", 1, numbered(0, 120)...)), partOf(t, 2, sorted, ".", card("y", 2, numbered(120, many-120)...))}
	p.Jobs = []api.Job{{Gen: 3, From: []int{1, 2}, Was: [][]bool{{true}, {true}}}}
}

// P14.1: each sentence of the chapter's words broken by itself: nothing is told of such a pile, and it stays as it is.
func TestMayNot(t *testing.T) {
	for _, sorted := range []bool{false, true} {
		for what, f := range wrongs(t, sorted) {
			p := busyPile(t, sorted)
			f(&p)
			wantNone(t, what, p)
		}
	}
	wantNone(t, "a zero one", api.Pile{})
}

// P14.1: jobs whose parts can just be merged as they were.
func TestMayJustBeMerged(t *testing.T) {
	for _, sorted := range []bool{false, true} {
		for what, f := range map[string]func(p *api.Pile){
			"64 that lived": func(p *api.Pile) { wereMany(t, p, sorted, 64) },
			"65, of which one was dead": func(p *api.Pile) {
				wereMany(t, p, sorted, 65)
				p.Parts[0].Live[7], p.Jobs[0].Was[0][7] = false, false
			},
			"200 words": func(p *api.Pile) { wereWordy(t, p, sorted, 200) },
			"201 words, not of who lived": func(p *api.Pile) {
				wereWordy(t, p, sorted, 201)
				p.Jobs[0].Was[1][0] = false
			},
			"two of an id, of which one was dead": func(p *api.Pile) {
				wereTwo(t, p, sorted)
				p.Jobs[0].Was[0][0] = false
			},
		} {
			p := busyPile(t, sorted)
			if f(&p); !pile.May(p) || !mayOf(p) {
				t.Errorf("%s: it may be", what)
			}
			q := played(t, p, finish(3))
			if len(q.Parts) != 1 || len(q.Jobs) != 0 || q.Parts[0].Gen != 3 {
				t.Errorf("%s: %s", what, told(q))
			}
			played(t, p, abort(3))
		}
	}
}

// P14.1: piles twisted at chance: each call tells what is worked out a second time.
func TestTwisted(t *testing.T) {
	dice := rand.New(rand.NewSource(141))
	l := []act{put("new", 1, "w"), put("a", 1), put("c", 2, "q"), del("a"), del("c"), flush(), start(2), start(5, 2), finish(6), finish(7), abort(6), abort(7)}
	were := 0
	for _, sorted := range []bool{false, true} {
		base := busyPile(t, sorted)
		for range 4000 {
			p := twist(dice, base)
			for dice.Intn(3) == 0 {
				p = twist(dice, p)
			}
			if mayOf(p) {
				were++
			}
			wantTold(t, p)
			wantDo(t, p, l[dice.Intn(len(l))])
		}
	}
	if were < 500 || were > 7500 {
		t.Errorf("%d may be", were)
	}
}

// P14.2: a card is the last one in the buffer, whether its Id was in the buffer, lives in a part, is dead in one, or is nowhere.
func TestAdd(t *testing.T) {
	for _, sorted := range []bool{false, true} {
		p := busyPile(t, sorted)
		for _, d := range []struct {
			id   string
			ids  string
			dead []int // of the parts, how many do not live
		}{
			{"new", "c h new", []int{1, 1, 0, 0, 0}},
			{"c", "h c", []int{1, 1, 0, 0, 0}},
			{"h", "c h", []int{1, 1, 0, 0, 0}},
			{"a", "c h a", []int{2, 1, 0, 0, 0}},
			{"b", "c h b", []int{1, 1, 0, 0, 0}},
			{"e", "c h e", []int{1, 1, 1, 0, 0}},
			{"d", "c h d", []int{1, 1, 1, 0, 0}},
			{"f", "c h f", []int{1, 1, 0, 1, 0}},
			{"g", "c h g", []int{1, 1, 0, 0, 1}},
		} {
			q := played(t, p, put(d.id, 8, "fresh", "q", "fresh"))
			var ids []string
			for _, c := range q.Buf {
				ids = append(ids, c.Id)
			}
			if strings.Join(ids, " ") != d.ids || !same(q.Buf[len(q.Buf)-1], card(d.id, 8, "fresh", "q", "fresh")) {
				t.Errorf("%q: the buffer %s", d.id, told(q.Buf))
			}
			for i, size := range pile.Sizes(q) {
				if size.Dead != d.dead[i] {
					t.Errorf("%q: %d dead in the part %d", d.id, size.Dead, i)
				}
			}
			if !same(q.Jobs, p.Jobs) || q.Next != p.Next {
				t.Errorf("%q: %s", d.id, told(q))
			}
			for what, c := range wrongCards() {
				if _, e := wantDo(t, p, add(c)); e != api.ErrArg {
					t.Errorf("%s: %d", what, e)
				}
			}
		}
	}
}

// P14.2: as many cards as there is room for, and one more; one of an Id that is in the buffer needs no more room.
func TestAddToFull(t *testing.T) {
	for _, room := range []int{1, 2, 63, 64} {
		p := played(t, fresh(t, true, room), puts(0, room)...)
		if len(p.Buf) != room {
			t.Errorf("%d: %d cards", room, len(p.Buf))
		}
		wantError(t, p, put("new", 1), api.ErrFull)
		wantError(t, p, put("", 1), api.ErrArg)
		wantError(t, p, put("new", -1), api.ErrArg)
		for _, i := range []int{0, room / 2, room - 1} {
			q := played(t, p, put(tag(i), 9, "other"))
			if !same(q.Buf[room-1], card(tag(i), 9, "other")) || len(q.Buf) != room {
				t.Errorf("%d: %s", room, told(q.Buf))
			}
		}
		wantError(t, played(t, p, del(tag(0)), put("new", 1)), put(tag(0), 1), api.ErrFull)
		// one that lives in a part is refused, too, and lives on
		q := played(t, played(t, p, flush()), puts(1000, room)...)
		wantError(t, q, put(tag(0), 1), api.ErrFull)
		if l := pile.Sizes(q); l[0].Dead != 0 {
			t.Errorf("%d: %s", room, told(l))
		}
	}
}

// P14.2: as many unlike words as there may be, and one more, with and without the card that goes.
func TestAddWords(t *testing.T) {
	for _, sorted := range []bool{false, true} {
		p := played(t, fresh(t, sorted, 4), put("part", 1, "w0"), flush(), put("x", 1, numbered(0, 120)...), put("y", 2, numbered(120, 80)...))
		wantError(t, p, put("z", 3, "other"), api.ErrLimit)
		wantError(t, p, put("part", 3, "other"), api.ErrLimit)
		wantError(t, p, put("z", 3, append(numbered(0, 119), "other")...), api.ErrLimit)
		wantError(t, p, put("y", 3, numbered(300, 81)...), api.ErrLimit)
		wantError(t, p, put("y", 3, numbered(120, 81)...), api.ErrLimit)
		wantError(t, p, put("x", 3, append(numbered(400, 119), "w120", "other")...), api.ErrArg)
		if l := pile.Sizes(p); l[0].Dead != 0 {
			t.Error(told(l))
		}
		for _, l := range [][]act{
			{put("z", 3, numbered(7, 120)...)}, {put("z", 3)}, {put("part", 3, "w199", "w0")}, {put("y", 3, numbered(300, 80)...)}, {put("x", 3, numbered(500, 120)...)},
			{put("y", 3, numbered(120, 79)...), put("z", 3, "other")}, {del("y"), put("z", 3, numbered(800, 80)...)}, {flush(), put("z", 3, "other")},
		} {
			played(t, p, l...)
		}
		q := played(t, p, put("z", 3), put("v", 3))
		wantError(t, q, put("new", 3, "other"), api.ErrFull)
		wantError(t, q, put("z", 3, "other"), api.ErrLimit)
		wantError(t, q, put("z", 3, ""), api.ErrArg)
	}
}

// P14.2: the card in the buffer goes, or the document that lives in a part is dead; else there is none.
func TestDel(t *testing.T) {
	for _, sorted := range []bool{false, true} {
		p := busyPile(t, sorted)
		for _, id := range []string{"a", "c", "d", "e", "f", "g", "h"} {
			q, is := pile.Del(p, id)
			if !is || slices.ContainsFunc(pile.Cards(q), func(c api.Card) bool { return c.Id == id }) || len(pile.Cards(q)) != 6 {
				t.Errorf("%q: %t, %s", id, is, told(q))
			}
			q = played(t, p, del(id))
			if again, is := pile.Del(q, id); is || !same(again, q) {
				t.Errorf("%q again: %t, %s", id, is, told(again))
			}
			if len(q.Parts) != 5 || !same(q.Jobs, p.Jobs) || q.Next != p.Next {
				t.Errorf("%q: %s", id, told(q))
			}
		}
		for _, id := range []string{"b", "", "none", "A", "a\x00", "aa", strings.Repeat("a", 17), strings.Repeat("a", 1<<16)} {
			if q, is := pile.Del(p, id); is || !same(q, p) {
				t.Errorf("%q: %t, %s", id, is, told(q))
			}
			wantError(t, p, del(id), api.ErrNone)
		}
		q := played(t, p, del("c"))
		if !same(q.Buf, []api.Card{card("h", 1, "q")}) || !same(q.Parts, p.Parts) {
			t.Errorf("c: %s", told(q))
		}
		q = played(t, p, acts("del c; del h; del a; del d; del e; del f; del g")...)
		if len(pile.Cards(q)) != 0 || len(q.Parts) != 5 {
			t.Errorf("all: %s", told(q))
		}
	}
}

// P14.3: the buffer is the last part, sorted if Sort is so; all of it lives.
func TestFlush(t *testing.T) {
	l := []api.Card{card("b", 5, "q", "r", "q"), card("c", 5), card("a", 5, "r"), card("z", 1, "s")}
	for _, sorted := range []bool{false, true} {
		p := fresh(t, sorted, 4)
		for _, c := range l {
			p = played(t, p, add(c))
		}
		q := played(t, p, flush())
		want := api.Pile{C: api.Conf{Sort: sorted, Room: 4}, Next: 2, Parts: []api.Part{partOf(t, 1, sorted, "xxxx", l...)}}
		if !same(q, want) || sorted && !slices.Equal(q.Parts[0].S.Ids, []string{"z", "a", "b", "c"}) || !sorted && !slices.Equal(q.Parts[0].S.Ids, []string{"b", "c", "a", "z"}) {
			t.Errorf("%s; want %s", told(q), told(want))
		}
		q = played(t, q, put("a", 2), flush(), start(1, 2), put("new", 1), flush())
		want.Parts[0].Live = []bool{true, !sorted, sorted, true} // a is the second one if sorted, else the third
		want.Parts = append(want.Parts, partOf(t, 2, sorted, "x", card("a", 2)), partOf(t, 4, sorted, "x", card("new", 1)))
		if !same(q.Parts, want.Parts) || q.Next != 5 || len(q.Jobs) != 1 {
			t.Errorf("%s; want %s", told(q), told(want))
		}
	}
}

// P14.3: each error, several at once, and the last Next.
func TestFlushRefused(t *testing.T) {
	for _, sorted := range []bool{false, true} {
		wantError(t, fresh(t, sorted, 1), flush(), api.ErrNone)
		wantError(t, played(t, fresh(t, sorted, 2), acts("add x 1; flush")...), flush(), api.ErrNone)
		wantError(t, played(t, fresh(t, sorted, 2), acts("add x 1; del x")...), flush(), api.ErrNone)
	}
	for _, next := range []int{17, 40, 1<<30 - 1, 1 << 30} {
		limit := next == 1<<30
		for many := range 17 {
			p := manyParts(t, many, next)
			wantError(t, p, flush(), api.ErrNone)
			p = played(t, p, put("new", 1, "w"))
			switch {
			case many == 16:
				wantError(t, p, flush(), api.ErrFull)
			case limit:
				wantError(t, p, flush(), api.ErrLimit)
			default:
				if q := played(t, p, flush()); len(q.Parts) != many+1 || q.Parts[many].Gen != next || q.Next != next+1 || len(q.Buf) != 0 {
					t.Errorf("%d, %d: %s", many, next, told(q))
				}
			}
		}
	}
	p := played(t, manyParts(t, 16, 17), put("new", 1))
	wantError(t, p, flush(), api.ErrFull)
	q := played(t, p, start(3, 4), finish(17), flush())
	if len(q.Parts) != 16 || q.Parts[15].Gen != 18 || q.Parts[2].Gen != 17 {
		t.Error(told(q))
	}
}

// P14.4: a job is of parts in their order, whatever order is asked for, and knows who lives.
func TestStart(t *testing.T) {
	for _, sorted := range []bool{false, true} {
		p := played(t, fresh(t, sorted, 2), acts("add a 5; add b 3; flush; add c 1; flush; add d 7; flush; add e 2; add c 2; flush; del e")...)
		for _, d := range []struct {
			gens, from []int
			was        [][]bool
		}{
			{[]int{1}, []int{1}, [][]bool{{true, true}}},
			{[]int{2}, []int{2}, [][]bool{{false}}},
			{[]int{1, 3}, []int{1, 3}, [][]bool{{true, true}, {true}}},
			{[]int{3, 1}, []int{1, 3}, [][]bool{{true, true}, {true}}},
			{[]int{4, 2}, []int{2, 4}, [][]bool{{false}, {sorted, !sorted}}},
			{[]int{1, 2, 3, 4}, []int{1, 2, 3, 4}, [][]bool{{true, true}, {false}, {true}, {sorted, !sorted}}},
			{[]int{3, 4, 1, 2}, []int{1, 2, 3, 4}, [][]bool{{true, true}, {false}, {true}, {sorted, !sorted}}},
		} {
			q := played(t, p, start(d.gens...))
			if want := (api.Job{Gen: 5, From: d.from, Was: d.was}); len(q.Jobs) != 1 || !same(q.Jobs[0], want) || q.Next != 6 || !same(q.Parts, p.Parts) {
				t.Errorf("%v: %s; want %s", d.gens, told(q), told(want))
			}
			for _, size := range pile.Sizes(q) {
				if size.Busy != slices.Contains(d.gens, size.Gen) {
					t.Errorf("%v: %s", d.gens, told(pile.Sizes(q)))
				}
			}
			for _, gen := range d.gens {
				wantError(t, q, start(gen), api.ErrBusy)
			}
		}
		// parts stand in another order than their numbers: 5, 2, 4
		q := played(t, p, start(1, 3), finish(5), start(4, 5, 2))
		if want := (api.Job{Gen: 6, From: []int{5, 2, 4}, Was: [][]bool{{true, true, true}, {false}, {sorted, !sorted}}}); !same(q.Jobs, []api.Job{want}) {
			t.Errorf("%s; want %s", told(q.Jobs), told(want))
		}
	}
}

// P14.4: each error, and several at once: the one that is named first is told, whatever stands first.
func TestStartRefused(t *testing.T) {
	for _, sorted := range []bool{false, true} {
		p := busyPile(t, sorted)
		last := copied(p)
		last.Next = 1 << 30
		for _, d := range []struct {
			gens  []int
			e, at api.Errno // at: where Next is 2^30
		}{
			{nil, api.ErrArg, api.ErrArg},
			{[]int{}, api.ErrArg, api.ErrArg},
			{[]int{2, 2}, api.ErrArg, api.ErrArg},
			{[]int{2, 5, 2}, api.ErrArg, api.ErrArg},
			{[]int{99, 99}, api.ErrArg, api.ErrArg},
			{[]int{99, 1, 1}, api.ErrArg, api.ErrArg},
			{[]int{1, 99, 1}, api.ErrArg, api.ErrArg},
			{[]int{99}, api.ErrNone, api.ErrNone},
			{[]int{0}, api.ErrNone, api.ErrNone},
			{[]int{-1}, api.ErrNone, api.ErrNone},
			{[]int{math.MinInt, math.MaxInt}, api.ErrNone, api.ErrNone},
			{[]int{6}, api.ErrNone, api.ErrNone},
			{[]int{7}, api.ErrNone, api.ErrNone},
			{[]int{8}, api.ErrNone, api.ErrNone},
			{[]int{2, 99}, api.ErrNone, api.ErrNone},
			{[]int{99, 2}, api.ErrNone, api.ErrNone},
			{[]int{1, 99}, api.ErrNone, api.ErrNone},
			{[]int{99, 1}, api.ErrNone, api.ErrNone},
			{[]int{1, 2, 3, 4, 5, 6}, api.ErrNone, api.ErrNone},
			{[]int{1}, api.ErrBusy, api.ErrBusy},
			{[]int{3}, api.ErrBusy, api.ErrBusy},
			{[]int{4}, api.ErrBusy, api.ErrBusy},
			{[]int{2, 1}, api.ErrBusy, api.ErrBusy},
			{[]int{4, 5}, api.ErrBusy, api.ErrBusy},
			{[]int{1, 3, 4}, api.ErrBusy, api.ErrBusy},
			{[]int{1, 2, 3, 4, 5}, api.ErrBusy, api.ErrBusy},
			{[]int{2}, api.OK, api.ErrLimit},
			{[]int{5}, api.OK, api.ErrLimit},
			{[]int{5, 2}, api.OK, api.ErrLimit},
		} {
			wantError(t, p, start(d.gens...), d.e)
			wantError(t, last, start(d.gens...), d.at)
		}
		last.Next--
		if q := played(t, last, start(2)); q.Next != 1<<30 || q.Jobs[2].Gen != 1<<30-1 {
			t.Error(told(q))
		}
		wantError(t, played(t, last, start(2)), start(5), api.ErrLimit)
		for gen := range 3 {
			wantError(t, fresh(t, sorted, 1), start(gen), api.ErrNone)
		}
		wantError(t, fresh(t, sorted, 1), start(), api.ErrArg)
	}
}

// P14.4: parts that have too many documents, or words, together are refused, till enough of them are dead.
func TestStartTooMuch(t *testing.T) {
	for _, sorted := range []bool{false, true} {
		p := of(t, sorted, 9,
			partOf(t, 1, sorted, strings.Repeat("x", 32), bare(tags(0, 32)...)...), partOf(t, 2, sorted, strings.Repeat("x", 32), bare(tags(32, 32)...)...), partOf(t, 3, sorted, "x", card("one", 1)),
			partOf(t, 4, sorted, "x", card("x", 1, numbered(0, 120)...)), partOf(t, 5, sorted, "xx", card("y", 1, numbered(100, 100)...), card("z", 1, "w7", "w200")))
		for _, gens := range [][]int{{1, 2, 3}, {3, 2, 1}, {1, 2, 4}, {4, 5}, {5, 4, 3}, {1, 2, 3, 4, 5}} {
			wantError(t, p, start(gens...), api.ErrLimit)
		}
		wantError(t, p, start(1, 2, 3, 99), api.ErrNone)
		wantError(t, played(t, p, start(3)), start(1, 2, 3), api.ErrBusy)
		for _, gens := range [][]int{{1, 2}, {1, 3}, {3, 2}, {4}, {5}, {1, 5, 3}} {
			played(t, p, start(gens...), finish(9))
		}
		played(t, p, del(tag(40)), start(1, 2, 3), finish(9))
		played(t, p, del("one"), start(1, 2, 3), finish(9))
		played(t, p, put("one", 3), start(1, 2, 3), finish(9))
		played(t, p, del("z"), start(4, 5), finish(9))
		played(t, p, put("z", 1, "w200"), start(5, 4), finish(9))
		played(t, p, del("x"), start(4, 5), finish(9))
	}
}

// P14.5: there is one part instead of those of a job, where the first of these stood.
func TestFinish(t *testing.T) {
	for _, sorted := range []bool{false, true} {
		p := played(t, fresh(t, sorted, 2), acts("add a 5; flush; add b 3; flush; add c 1; flush; add d 7; flush; add e 2; flush")...)
		for gens, want := range map[string][]int{
			"1": {6, 2, 3, 4, 5}, "3": {1, 2, 6, 4, 5}, "5": {1, 2, 3, 4, 6}, "1 2": {6, 3, 4, 5}, "4 5": {1, 2, 3, 6}, "2 4": {1, 6, 3, 5}, "4 2": {1, 6, 3, 5}, "1 5": {6, 2, 3, 4},
			"2 3 5": {1, 6, 4}, "5 3 1": {6, 2, 4}, "1 2 3 4 5": {6}, "5 1 4 2 3": {6}, "2 3 4": {1, 6, 5},
		} {
			q := played(t, p, acts("start "+gens+"; finish 6")...)
			var got []int
			for _, part := range q.Parts {
				got = append(got, part.Gen)
			}
			if !slices.Equal(got, want) || len(q.Jobs) != 0 || q.Next != 7 {
				t.Errorf("%s: %v; want %v", gens, got, want)
			}
			if !same(pile.Cards(q), pile.Cards(p)) {
				t.Errorf("%s: other cards", gens)
			}
		}
		q := played(t, p, acts("start 2 5; start 1 3; finish 6; finish 7")...)
		want := []api.Part{partOf(t, 7, sorted, "xx", card("a", 5), card("c", 1)), partOf(t, 6, sorted, "xx", card("b", 3), card("e", 2)), partOf(t, 4, sorted, "x", card("d", 7))}
		if !same(q.Parts, want) {
			t.Errorf("%s; want %s", told(q.Parts), told(want))
		}
	}
}

// P14.5: who died since a merge was started is dead in what it makes, whether it was added anew or not, and wherever that is.
func TestFinishOfWhoDied(t *testing.T) {
	for _, sorted := range []bool{false, true} {
		p := played(t, fresh(t, sorted, 2), acts("add a 5 q; add b 3 r; flush; add c 1; add d 9; flush; del d; add e 4; flush; start 1 2 3")...)
		made := func(lives string) []api.Part {
			return []api.Part{partOf(t, 4, sorted, lives, card("a", 5, "q"), card("b", 3, "r"), card("c", 1), card("e", 4))}
		}
		ordered := func(lives map[string]bool) string { // x or dot, of what the segment has, in its order
			out := ""
			for _, id := range made("xxxx")[0].S.Ids {
				out += map[bool]string{true: "x", false: "."}[lives[id]]
			}
			return out
		}
		for what, d := range map[string]struct {
			acts  string
			lives map[string]bool
			rest  []api.Part
		}{
			"nobody":                    {"add new 1", map[string]bool{"a": true, "b": true, "c": true, "e": true}, nil},
			"one":                       {"del a", map[string]bool{"b": true, "c": true, "e": true}, nil},
			"one of each":               {"del b; del c; del e", map[string]bool{"a": true}, nil},
			"all":                       {"del a; del b; del c; del e", nil, nil},
			"one anew":                  {"add c 6 w", map[string]bool{"a": true, "b": true, "e": true}, nil},
			"one anew, deleted":         {"add c 6 w; del c", map[string]bool{"a": true, "b": true, "e": true}, nil},
			"one deleted, then anew":    {"del e; add e 6 w", map[string]bool{"a": true, "b": true, "c": true}, nil},
			"one that was dead, anew":   {"add d 6 w", map[string]bool{"a": true, "b": true, "c": true, "e": true}, nil},
			"one anew, flushed":         {"add c 6 w; flush", map[string]bool{"a": true, "b": true, "e": true}, []api.Part{partOf(t, 5, sorted, "x", card("c", 6, "w"))}},
			"one anew, flushed, and so": {"add c 6 w; flush; add c 7", map[string]bool{"a": true, "b": true, "e": true}, []api.Part{partOf(t, 5, sorted, ".", card("c", 6, "w"))}},
		} {
			q := played(t, p, append(acts(d.acts), finish(4))...)
			if want := append(made(ordered(d.lives)), d.rest...); !same(q.Parts, want) || len(q.Jobs) != 0 {
				t.Errorf("%s: %s; want %s", what, told(q.Parts), told(want))
			}
			// and once more: those that are dead are gone then
			next := q.Next
			q = played(t, q, start(4), finish(next))
			if many := len(d.lives); many == 0 && len(q.Parts) != 0 || many > 0 && len(q.Parts[0].S.Ids) != many {
				t.Errorf("%s: %s", what, told(q.Parts))
			}
		}
	}
}

// P14.5: where no document lived when a merge was started there is no part of it.
func TestFinishOfNothing(t *testing.T) {
	for _, sorted := range []bool{false, true} {
		p := played(t, fresh(t, sorted, 2), acts("add a 5; add b 3; flush; add c 1; flush; add d 7; flush; del a; del b; del d")...)
		for gens, want := range map[string]string{"1": "2 3", "3": "1 2", "1 3": "2", "1 2": "4 3", "1 2 3": "4", "2 3": "1 4", "2": "1 4 3"} {
			q := played(t, p, acts("start "+gens+"; add c 2; finish 4")...)
			var left []string
			for _, part := range q.Parts {
				left = append(left, strconv.Itoa(part.Gen))
			}
			if strings.Join(left, " ") != want || len(q.Jobs) != 0 {
				t.Errorf("%s: %s", gens, told(q))
			}
			if l := pile.Cards(q); !same(l, []api.Card{card("c", 2)}) {
				t.Errorf("%s: %s", gens, told(l))
			}
		}
		q := of(t, sorted, 5, partOf(t, 1, sorted, ""), partOf(t, 2, sorted, "x", card("x", 1)), partOf(t, 3, sorted, ""))
		if q := played(t, q, acts("start 1 3; finish 5")...); len(q.Parts) != 1 || q.Parts[0].Gen != 2 {
			t.Error(told(q))
		}
		if q := played(t, q, acts("start 1 2 3; finish 5")...); len(q.Parts) != 1 || !same(q.Parts[0], partOf(t, 5, sorted, "x", card("x", 1))) {
			t.Error(told(q))
		}
	}
}

// P14.5: the first job, the last one, and one between are finished, or let go; there is none of any other number.
func TestFinishAndAbortOfMany(t *testing.T) {
	for _, sorted := range []bool{false, true} {
		p := played(t, fresh(t, sorted, 1), acts("add a 5; flush; add b 3; flush; add c 1; flush; add d 7; flush; start 3; start 2; start 1 4")...)
		for _, gen := range []int{0, -1, 1, 2, 3, 4, 8, 9, 1 << 30, math.MinInt, math.MaxInt} {
			wantError(t, p, finish(gen), api.ErrNone)
			wantError(t, p, abort(gen), api.ErrNone)
		}
		for i, gen := range []int{5, 6, 7} {
			q := played(t, p, abort(gen))
			left := slices.Delete(copied(p.Jobs), i, i+1)
			if !same(q.Jobs, left) || !same(q.Parts, p.Parts) || q.Next != p.Next {
				t.Errorf("%d: %s", gen, told(q))
			}
			done := played(t, p, finish(gen))
			if !same(done.Jobs, left) || standing(done, gen) < 0 || done.Next != p.Next || !same(pile.Cards(done), pile.Cards(p)) {
				t.Errorf("%d: %s", gen, told(done))
			}
			for _, a := range []act{finish(gen), abort(gen)} {
				wantError(t, q, a, api.ErrNone)
				wantError(t, done, a, api.ErrNone)
			}
			// what was let go is idle again, and what was made is
			for _, from := range p.Jobs[i].From {
				played(t, q, start(from))
			}
			played(t, done, start(gen))
		}
		for _, gen := range []int{0, 1, 2} {
			wantError(t, fresh(t, sorted, 1), finish(gen), api.ErrNone)
			wantError(t, fresh(t, sorted, 1), abort(gen), api.ErrNone)
		}
	}
}

// P14.5: a merge of all of sixteen parts, at once and by halves.
func TestFinishOfAll(t *testing.T) {
	for _, l := range []string{"start 1 2 3 4 5 6 7 8 9 10 11 12 13 14 15 16; finish 17", "start 1 3 5 7 9 11 13 15; start 2 4 6 8 10 12 14 16; del i0003; add i0005 1; finish 18; finish 17; start 18 17; finish 19"} {
		p := manyParts(t, 16, 17)
		q := played(t, p, acts(l)...)
		if len(q.Parts) != 1 || len(q.Jobs) != 0 {
			t.Errorf("%s: %s", l, told(q))
		}
	}
}

// P14.6: of each part its sizes; of all of it the cards, by their ids.
func TestSizesAndCards(t *testing.T) {
	for _, sorted := range []bool{false, true} {
		p := busyPile(t, sorted)
		sizes := []api.Size{{Gen: 1, Docs: 2, Dead: 1, Busy: true}, {Gen: 2, Docs: 1, Dead: 1}, {Gen: 3, Docs: 2, Busy: true}, {Gen: 4, Docs: 1, Busy: true}, {Gen: 5, Docs: 1}}
		if l := pile.Sizes(p); !slices.Equal(l, sizes) {
			t.Errorf("%s; want %s", told(l), told(sizes))
		}
		cards := []api.Card{card("a", 5, "q"), card("c", 9), card("d", 7), card("e", 2, "q"), card("f", 4, "t"), card("g", 6), card("h", 1, "q")}
		if l := pile.Cards(p); !same(l, cards) {
			t.Errorf("%s; want %s", told(l), told(cards))
		}
		q := played(t, p, finish(6))
		sizes = []api.Size{{Gen: 6, Docs: 4, Dead: 1}, {Gen: 2, Docs: 1, Dead: 1}, {Gen: 4, Docs: 1, Busy: true}, {Gen: 5, Docs: 1}}
		if l := pile.Sizes(q); !slices.Equal(l, sizes) || !same(pile.Cards(q), cards) {
			t.Errorf("%s; want %s", told(l), told(sizes))
		}
		if p := fresh(t, sorted, 3); len(pile.Sizes(p)) != 0 || len(pile.Cards(p)) != 0 {
			t.Error("of none")
		}
		ids := []string{"\xff", "b", "a\x00", "aa", "a", "é", "B", "10", "9", "\x00"}
		q = fresh(t, sorted, 3)
		for i, id := range ids {
			q = played(t, q, put(id, 20-i, id))
			if i%3 == 1 {
				q = played(t, q, flush())
			}
		}
		var got []string
		for _, c := range pile.Cards(q) {
			got = append(got, c.Id)
		}
		if want := []string{"\x00", "10", "9", "B", "a", "a\x00", "aa", "b", "é", "\xff"}; !slices.Equal(got, want) {
			t.Errorf("%q; want %q", got, want)
		}
	}
}

// P14.1: two are the same just if all their parts are, in order, whether they may be or not.
func TestSame(t *testing.T) {
	changes := []func(p *api.Pile){
		func(p *api.Pile) {},
		func(p *api.Pile) { p.C.Sort = true },
		func(p *api.Pile) { p.C.Room = 4 },
		func(p *api.Pile) { p.C.Room = -4 },
		func(p *api.Pile) { p.Next = 9 },
		func(p *api.Pile) { p.Next = 8 + 1<<32 },
		func(p *api.Pile) { p.Buf = nil },
		func(p *api.Pile) { p.Buf = p.Buf[:1] },
		func(p *api.Pile) { p.Buf = append(p.Buf, api.Card{}) },
		func(p *api.Pile) { slices.Reverse(p.Buf) },
		func(p *api.Pile) { p.Buf[0].Id = "C" },
		func(p *api.Pile) { p.Buf[0].Key++ },
		func(p *api.Pile) { p.Buf[0].W = []string{""} },
		func(p *api.Pile) { p.Buf[1].W[0] = "r" },
		func(p *api.Pile) { p.Buf[1].W = append(p.Buf[1].W, "q") },
		func(p *api.Pile) { p.Buf[1].W = nil },
		func(p *api.Pile) { p.Parts = nil },
		func(p *api.Pile) { p.Parts = p.Parts[1:] },
		func(p *api.Pile) { p.Parts = p.Parts[:4] },
		func(p *api.Pile) { p.Parts = append(p.Parts, api.Part{}) },
		func(p *api.Pile) { slices.Reverse(p.Parts) },
		func(p *api.Pile) { p.Parts[3], p.Parts[4] = p.Parts[4], p.Parts[3] },
		func(p *api.Pile) { p.Parts[0].Gen = 0 },
		func(p *api.Pile) { p.Parts[4].Gen = 99 },
		func(p *api.Pile) { p.Parts[0].S.Ids[1] = "x" },
		func(p *api.Pile) { p.Parts[0].S.Ids = p.Parts[0].S.Ids[:1] },
		func(p *api.Pile) { p.Parts[1].S.Keys[0]++ },
		func(p *api.Pile) { p.Parts[1].S.Keys = append(p.Parts[1].S.Keys, 0) },
		func(p *api.Pile) { p.Parts[4].S.Lens[0] = 1 },
		func(p *api.Pile) { p.Parts[4].S.Lens = nil },
		func(p *api.Pile) { p.Parts[2].S.Sorted = true },
		func(p *api.Pile) { p.Parts[0].S.Terms = p.Parts[0].S.Terms[:1] },
		func(p *api.Pile) { p.Parts[0].S.Terms[1].T = "rr" },
		func(p *api.Pile) { p.Parts[0].S.Terms[0].P[1].Doc = 0 },
		func(p *api.Pile) { p.Parts[0].S.Terms[0].P = p.Parts[0].S.Terms[0].P[:1] },
		func(p *api.Pile) { p.Parts[1].S.Terms[0].P[0].At[1] = 7 },
		func(p *api.Pile) { p.Parts[1].S.Terms[0].P[0].At = nil },
		func(p *api.Pile) { p.Parts[0].Live[0] = false },
		func(p *api.Pile) { p.Parts[4].Live = nil },
		func(p *api.Pile) { p.Parts[4].Live = []bool{true, true} },
		func(p *api.Pile) { p.Jobs = nil },
		func(p *api.Pile) { p.Jobs = p.Jobs[:1] },
		func(p *api.Pile) { p.Jobs = p.Jobs[1:] },
		func(p *api.Pile) { p.Jobs = append(p.Jobs, api.Job{}) },
		func(p *api.Pile) { slices.Reverse(p.Jobs) },
		func(p *api.Pile) { p.Jobs[0].Gen = 7 },
		func(p *api.Pile) { p.Jobs[1].Gen = -7 },
		func(p *api.Pile) { p.Jobs[0].From[1] = 2 },
		func(p *api.Pile) { slices.Reverse(p.Jobs[0].From) },
		func(p *api.Pile) { p.Jobs[0].From = append(p.Jobs[0].From, 5) },
		func(p *api.Pile) { p.Jobs[1].From = nil },
		func(p *api.Pile) { p.Jobs[0].Was[0][1] = false },
		func(p *api.Pile) { p.Jobs[0].Was[1] = nil },
		func(p *api.Pile) { p.Jobs[0].Was = p.Jobs[0].Was[:1] },
		func(p *api.Pile) { p.Jobs[1].Was = append(p.Jobs[1].Was, nil) },
		func(p *api.Pile) { p.Jobs[1].Was[0] = append(p.Jobs[1].Was[0], false) },
		func(p *api.Pile) { *p = api.Pile{} },
		func(p *api.Pile) { *p = api.Pile{Next: 1} },
	}
	var all []api.Pile
	for _, f := range changes {
		p := busyPile(t, false)
		f(&p)
		all = append(all, p)
	}
	for i, a := range all {
		for k, b := range all {
			in, other := roomy(a), roomy(b)
			was, wasOther := row(in, true), row(other, true)
			if is := pile.Same(in, other); is != (i == k) || is != same(a, b) {
				t.Errorf("%d and %d: %t: %s; %s", i, k, is, told(a), told(b))
			}
			if row(in, true) != was || row(other, true) != wasOther {
				t.Errorf("%d and %d: changed", i, k)
			}
		}
	}
}

// choices are all that is done to a small pile to see what comes of it.
func choices(p api.Pile) []act {
	l := []act{put("x", p.Next, "w"), put("y", 9-p.Next, "v"), put("", 1), del("x"), del("y"), del("z"), flush(), start(), start(p.Next)}
	for i, part := range p.Parts {
		l = append(l, start(part.Gen), start(part.Gen, part.Gen))
		for _, other := range p.Parts[i+1:] {
			l = append(l, start(part.Gen, other.Gen), start(other.Gen, part.Gen))
		}
	}
	for gen := range p.Next + 1 {
		l = append(l, finish(gen), abort(gen))
	}
	return l
}

// P14.7, and all others: whatever is done to a pile of few cards, so many times: it is what is worked out a second time, it may be, and its cards are those of a shelf.
func TestAllThatIsDone(t *testing.T) {
	type place struct {
		p api.Pile
		l []api.Card
	}
	for _, c := range []api.Conf{{Room: 1}, {Room: 2}, {Room: 1, Sort: true}, {Room: 2, Sort: true}} {
		now := []place{{p: fresh(t, c.Sort, c.Room)}}
		seen, done := map[string]bool{}, 0
		for range 7 {
			var next []place
			for _, at := range now {
				for _, a := range choices(at.p) {
					q, e := wantDo(t, at.p, a)
					done++
					if e != api.OK {
						continue
					}
					l := a.on(t, at.l)
					if got := pile.Cards(q); !same(got, l) || !pile.May(q) {
						t.Fatalf("%s of %s: the cards %s; want %s", told(a), told(at.p), told(got), told(l))
					}
					if key := row(q, false); !seen[key] {
						seen[key] = true
						next = append(next, place{q, l})
						wantTold(t, q)
					}
				}
			}
			now = next
		}
		if len(seen) < 500 || done < 5000 {
			t.Errorf("%d piles, %d done", len(seen), done)
		}
	}
}

// deal is how scripts are dealt: the room, how many ids there are, how many words a card has at the most, whether merges are never finished, and of how many steps there are how many scripts.
type deal struct {
	room, ids, words int
	endless          bool
	steps, times     int
}

// act is something that is done, as it happens, mostly such as may be done.
func (d deal) act(dice *rand.Rand, p api.Pile) act {
	id := tag(dice.Intn(d.ids))
	var gens []int
	for _, i := range dice.Perm(len(p.Parts))[:dice.Intn(min(len(p.Parts), 4)+1)] {
		gens = append(gens, p.Parts[i].Gen)
	}
	gen := dice.Intn(p.Next + 1)
	if len(p.Jobs) > 0 && dice.Intn(5) > 0 {
		gen = p.Jobs[dice.Intn(len(p.Jobs))].Gen
	}
	switch n := dice.Intn(20); {
	case n < 10:
		var w []string
		for range dice.Intn(d.words + 1) {
			w = append(w, "w"+strconv.Itoa(dice.Intn(1+d.words*4)))
		}
		return put(id, dice.Intn(9), w...)
	case n < 13:
		return del(id)
	case n < 15 || d.endless && n < 17:
		return flush()
	case n < 18 || d.endless:
		return start(gens...)
	case n == 18 && dice.Intn(3) == 0:
		return abort(gen)
	}
	return finish(gen)
}

// P14.7: long scripts as they happen, with rooms of all kinds, with so many words, documents and parts that limits are met.
func TestDealt(t *testing.T) {
	dice := rand.New(rand.NewSource(147))
	often := map[string]int{}
	for _, d := range []deal{{1, 9, 3, false, 120, 12}, {3, 20, 4, false, 150, 8}, {1, 30, 2, true, 150, 4}, {8, 30, 90, false, 90, 4}, {64, 300, 0, true, 500, 2}} {
		for i := range d.times {
			p := fresh(t, i%2 == 1, d.room)
			var l []api.Card
			for range d.steps {
				a := d.act(dice, p)
				q, e := wantDo(t, p, a)
				often[a.Kind+" "+strconv.Itoa(int(e))]++
				if e == api.OK {
					l = a.on(t, l)
				}
				if !shelf.Same(pile.Cards(q), l) || !pile.May(q) {
					t.Fatalf("%s: the cards are not those of the shelf", a.Kind)
				}
				p = q
			}
			wantTold(t, p)
		}
	}
	for _, what := range []string{"add 0", "add 4", "add 8", "del 0", "del 2", "flush 0", "flush 2", "flush 4", "start 0", "start 1", "start 9", "start 8", "finish 0", "finish 2", "abort 0", "abort 2"} {
		if often[what] == 0 {
			t.Errorf("%s was never told: %v", what, often)
		}
	}
}

// P14.6, P14.7: a pile as great as there may be.
func TestGreatest(t *testing.T) {
	for _, sorted := range []bool{false, true} {
		p := api.Pile{C: api.Conf{Sort: sorted, Room: 64}, Next: 17}
		for i := range 16 {
			var l []api.Card
			for k := range 64 {
				l = append(l, card(tag(i*64+k), k*53%19, numbered(k%2*100, 100)...))
			}
			p.Parts = append(p.Parts, partOf(t, i+1, sorted, strings.Repeat("x", 64), l...))
		}
		for k := range 64 {
			p.Buf = append(p.Buf, card(tag(1024+k), k, numbered(k%2*100, 100)...))
		}
		l := pile.Cards(p)
		if len(l) != 1088 || !shelf.May(l) || !pile.May(p) {
			t.Fatalf("%d cards", len(l))
		}
		wantError(t, p, put("new", 1), api.ErrFull)
		wantError(t, p, flush(), api.ErrFull)
		wantError(t, p, start(1, 2), api.ErrLimit)
		for i, size := range pile.Sizes(p) {
			if size != (api.Size{Gen: i + 1, Docs: 64}) {
				t.Errorf("%v", size)
			}
		}
		q, e := pile.Start(p, []int{16})
		q, is := pile.Del(q, tag(1000))
		q, e2 := pile.Finish(q, 17)
		q, e3 := pile.Add(q, card(tag(1050), 3, "w0"))
		l, _ = shelf.Del(l, tag(1000))
		l, _ = shelf.Put(l, card(tag(1050), 3, "w0"))
		if e != api.OK || !is || e2 != api.OK || e3 != api.OK || !shelf.Same(pile.Cards(q), l) || !pile.May(q) {
			t.Errorf("%d, %t, %d, %d: %d cards", e, is, e2, e3, len(pile.Cards(q)))
		}
	}
}

// R3: what was handed in may change later: what was answered does not, and the other way round.
func TestAnswersAreNew(t *testing.T) {
	for _, sorted := range []bool{false, true} {
		p := busyPile(t, sorted)
		bad := copied(p)
		bad.C.Room = 0
		for _, base := range []api.Pile{p, bad} {
			for _, a := range append(acts("add new 1 w v; add a 1 w; add c 3 w; add b 3; del a; del c; del none; flush; start 2 5; start 5; start 1; start 99; finish 6; finish 7; finish 5; abort 6; abort 7; abort 5"), put("", 1, "w")) {
				wantAfter, e := a.of(base)
				in, arg := copied(base), copied(a)
				got, gotE := arg.do(in)
				scribble(&in)
				scribble(&arg)
				if gotE != e || !same(got, wantAfter) {
					t.Errorf("%s of %s: the answer hangs on what was handed in", told(a), told(base))
				}
				in, arg = copied(base), copied(a)
				got, _ = arg.do(in)
				scribble(&got)
				if !same(in, base) || !same(arg, a) {
					t.Errorf("%s of %s: what was handed in hangs on the answer", told(a), told(base))
				}
			}
			in := copied(base)
			sizes, cards := pile.Sizes(in), pile.Cards(in)
			scribble(&in)
			if !same(sizes, sizesOf(base)) || !same(cards, cardsOf(base)) {
				t.Errorf("%s: Sizes or Cards hang on what was handed in", told(base))
			}
			in = copied(base)
			cards = pile.Cards(in)
			scribble(&cards)
			if !same(in, base) {
				t.Errorf("%s: what was handed in hangs on Cards", told(base))
			}
		}
	}
}

// R3: lists that are handed in as one and the same are told apart in the answer.
func TestListsAreApart(t *testing.T) {
	words, lives := []string{"q", "r"}, []bool{true}
	p := api.Pile{C: api.Conf{Room: 3}, Next: 4, Buf: []api.Card{{Id: "a", W: words}, {Id: "b", W: words}}}
	p.Parts = []api.Part{partOf(t, 1, false, "x", card("x", 1, "w")), partOf(t, 2, false, "x", card("y", 1, "w"))}
	p.Parts[0].Live, p.Parts[1].Live, p.Parts[1].S.Keys = lives, lives, p.Parts[0].S.Keys
	p.Jobs = []api.Job{{Gen: 3, From: []int{1}, Was: [][]bool{lives}}}
	want := copied(p)
	for _, a := range []act{{Kind: "add", C: api.Card{Id: "c", W: words}}, del("x"), del("b"), flush(), start(2), finish(3), abort(3), start(1), del("none"), put("", 1)} {
		wantAfter, e := a.of(want)
		got, gotE := a.do(p)
		if gotE != e || !same(got, wantAfter) || share(got) || share(got, words) || share(got, lives) {
			t.Errorf("%s: %d, %s", told(a), gotE, told(got))
		}
		if !same(p, want) {
			t.Errorf("%s: changed", told(a))
		}
	}
	if l := pile.Cards(p); share(l, words) || !same(l, cardsOf(want)) {
		t.Errorf("Cards: %s", told(l))
	}
}

// R6: lists without elements may be nil or empty.
func TestEmptyLists(t *testing.T) {
	full := func(p api.Pile) api.Pile { // each list that is nil is an empty one
		if p.Buf == nil {
			p.Buf = []api.Card{}
		}
		if p.Jobs == nil {
			p.Jobs = []api.Job{}
		}
		if p.Parts == nil {
			p.Parts = []api.Part{}
		}
		for i := range p.Parts {
			if p.Parts[i].S.Terms == nil {
				p.Parts[i].S.Terms = make([]api.Term, 0, 3)
			}
			if p.Parts[i].Live == nil {
				p.Parts[i].Live, p.Parts[i].S.Ids = []bool{}, make([]string, 0, 2)
			}
		}
		for i := range p.Buf {
			if p.Buf[i].W == nil {
				p.Buf[i].W = []string{}
			}
		}
		return p
	}
	for _, p := range []api.Pile{fresh(t, true, 1), of(t, true, 3, partOf(t, 1, true, ""), partOf(t, 2, true, "x", card("x", 1))), played(t, fresh(t, false, 2), put("x", 1)), {}} {
		other := full(copied(p))
		if !pile.Same(p, other) || !pile.Same(other, p) || pile.May(p) != pile.May(other) || !same(pile.Cards(p), pile.Cards(other)) || !same(pile.Sizes(p), pile.Sizes(other)) {
			t.Errorf("%s and %s", told(p), told(other))
		}
		for _, a := range acts("add x 1; add y 1; del x; flush; start; start 1; start 1 2; finish 1; abort 1") {
			q, e := a.do(p)
			r, re := a.do(other)
			if e != re || !same(q, r) || !pile.Same(q, r) {
				t.Errorf("%s: %d, %s; %d, %s", told(a), e, told(q), re, told(r))
			}
		}
		q, e := pile.Add(p, api.Card{Id: "y", W: nil})
		r, re := pile.Add(other, api.Card{Id: "y", W: []string{}})
		s, se := pile.Start(p, []int{})
		if e != re || !pile.Same(q, r) || se != api.ErrArg || !same(s, p) {
			t.Errorf("%d, %s; %d, %s; %d, %s", e, told(q), re, told(r), se, told(s))
		}
	}
}

// R1: calls with very much end.
func TestVeryMuch(t *testing.T) {
	p := busyPile(t, false)
	gens := make([]int, 1<<20)
	for i := range gens {
		gens[i] = i + 1
	}
	for _, d := range []struct {
		gens []int
		e    api.Errno
	}{{gens, api.ErrNone}, {make([]int, 1<<20), api.ErrArg}, {append(slices.Clone(gens), 1<<20), api.ErrArg}} {
		if q, e := pile.Start(p, d.gens); e != d.e || !same(q, p) {
			t.Errorf("Start of many: %d; want %d", e, d.e)
		}
	}
	job := api.Job{Gen: 7, From: []int{4}, Was: [][]bool{{true}}}
	for what, q := range map[string]api.Pile{
		"jobs":             {C: p.C, Next: 1 << 30, Parts: p.Parts, Jobs: slices.Repeat([]api.Job{job}, 100000)},
		"empty jobs":       {C: p.C, Next: 1 << 30, Jobs: make([]api.Job, 100000)},
		"From":             {C: p.C, Next: 1 << 30, Parts: p.Parts, Jobs: []api.Job{{Gen: 7, From: gens, Was: make([][]bool, len(gens))}}},
		"parts":            {C: p.C, Next: 1 << 30, Parts: make([]api.Part, 100000)},
		"cards":            {C: p.C, Next: 1, Buf: make([]api.Card, 100000)},
		"lives":            {C: p.C, Next: 2, Parts: []api.Part{{Gen: 1, S: p.Parts[0].S, Live: make([]bool, 1<<20)}}},
		"documents":        {C: p.C, Next: 2, Parts: []api.Part{{Gen: 1, S: api.Seg{Ids: make([]string, 1<<20), Keys: make([]int, 1<<20), Lens: make([]int, 1<<20)}, Live: make([]bool, 1<<20)}}},
		"a document's Len": {C: p.C, Next: 2, Parts: []api.Part{{Gen: 1, S: api.Seg{Ids: []string{"x"}, Keys: []int{1}, Lens: []int{math.MaxInt}}, Live: []bool{true}}}},
	} {
		if pile.May(q) || len(pile.Cards(q)) != 0 || len(pile.Sizes(q)) != 0 {
			t.Errorf("many %s: it may not be", what)
		}
		if r, e := pile.Flush(q); e != api.ErrArg || !pile.Same(r, q) {
			t.Errorf("many %s: %d", what, e)
		}
	}
}

// R5: asked again, whatever was asked between, the same is told.
func TestAgain(t *testing.T) {
	p := busyPile(t, true)
	l := acts("add a 1 w; del c; flush; start 2 5; finish 6; abort 7; finish 99")
	first := map[int]string{}
	for range 4 {
		for i, a := range l {
			q, e := a.do(p)
			is := strconv.Itoa(int(e)) + row(q, false) + row(pile.Cards(q), false) + row(pile.Sizes(q), false)
			if first[i] == "" {
				first[i] = is
			}
			if is != first[i] {
				t.Errorf("%s: another answer", told(a))
			}
			pile.Flush(api.Pile{})
			pile.New(api.Conf{Room: 65})
		}
	}
}
