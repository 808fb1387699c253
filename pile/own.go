package pile

import (
	"slices"

	"catchword/api"
	"catchword/seg"
)

// own are the same things in new memory, each as one makes it of it.
func own[T any](l []T, one func(T) T) []T {
	var mine []T
	for _, it := range l {
		mine = append(mine, one(it))
	}
	return mine
}

// ownPile is the same pile, of which no list is shared.
func ownPile(p api.Pile) api.Pile {
	p.Buf, p.Parts, p.Jobs = own(p.Buf, ownCard), own(p.Parts, ownPart), own(p.Jobs, ownJob)
	return p
}

// ownCard is the same card, of which no list is shared.
func ownCard(c api.Card) api.Card {
	c.W = slices.Clone(c.W)
	return c
}

// ownPart is the same part, of which no list is shared.
func ownPart(part api.Part) api.Part {
	part.S, part.Live = ownSeg(part.S), slices.Clone(part.Live)
	return part
}

// ownSeg is the same segment, of which no list is shared.
func ownSeg(s api.Seg) api.Seg {
	s.Ids, s.Keys, s.Lens, s.Terms = slices.Clone(s.Ids), slices.Clone(s.Keys), slices.Clone(s.Lens), own(s.Terms, ownTerm)
	return s
}

// ownTerm is the same word, of whose postings no list is shared.
func ownTerm(t api.Term) api.Term {
	t.P = own(t.P, ownPost)
	return t
}

// ownPost is the same posting, of which no list is shared.
func ownPost(p api.Post) api.Post {
	p.At = slices.Clone(p.At)
	return p
}

// ownJob is the same job, of which no list is shared.
func ownJob(j api.Job) api.Job {
	j.From, j.Was = slices.Clone(j.From), own(j.Was, slices.Clone)
	return j
}

// sameCard tells whether all parts of cards are the same.
func sameCard(a, b api.Card) bool {
	return a.Id == b.Id && a.Key == b.Key && slices.Equal(a.W, b.W)
}

// samePart tells whether all parts of parts are the same.
func samePart(a, b api.Part) bool {
	return a.Gen == b.Gen && seg.Same(a.S, b.S) && slices.Equal(a.Live, b.Live)
}

// sameJob tells whether all parts of jobs are the same.
func sameJob(a, b api.Job) bool {
	return a.Gen == b.Gen && slices.Equal(a.From, b.From) && slices.EqualFunc(a.Was, b.Was, slices.Equal)
}
