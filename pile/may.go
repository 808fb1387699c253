package pile

import (
	"cmp"
	"slices"

	"catchword/api"
	"catchword/live"
	"catchword/merge"
	"catchword/seg"
)

// mayHead tells whether a pile may have its Room, its Next, and its buffer.
func mayHead(p api.Pile) bool {
	return within(p.C.Room, 1, api.MaxDocs) && within(p.Next, 1, api.MaxKey) && len(p.Buf) <= p.C.Room && mayBuild(p.Buf...)
}

// mayBuild tells whether there is a segment of cards.
func mayBuild(l ...api.Card) bool {
	_, e := seg.Build(l, false)
	return e == api.OK
}

// mayParts tells whether there are not too many parts, and each may be by itself.
func mayParts(p api.Pile) bool {
	return len(p.Parts) <= api.MaxSegs && !slices.ContainsFunc(p.Parts, func(part api.Part) bool {
		return part.S.Sorted != p.C.Sort || len(part.Live) != len(part.S.Ids) || !seg.May(part.S)
	})
}

// mayNumbers tells whether parts and jobs have numbers below the next one, no two of them the same, and no part is in two jobs.
func mayNumbers(p api.Pile) bool {
	gens := numbers(p.Parts)
	var from []int
	for _, j := range p.Jobs {
		gens, from = append(gens, j.Gen), append(from, j.From...)
	}
	return !slices.ContainsFunc(gens, func(gen int) bool { return !within(gen, 1, p.Next-1) }) && unlike(gens) && unlike(from)
}

// ids are those of the buffer's cards, and of the documents of parts that live.
func ids(p api.Pile) []string {
	var l []string
	for _, c := range p.Buf {
		l = append(l, c.Id)
	}
	for _, part := range p.Parts {
		for doc, id := range part.S.Ids {
			if part.Live[doc] {
				l = append(l, id)
			}
		}
	}
	return l
}

// mayJobs tells whether each job may be, beside its number.
func mayJobs(p api.Pile) bool {
	return !slices.ContainsFunc(p.Jobs, func(j api.Job) bool { return !mayJob(p, j) })
}

// mayJob tells whether a job is of parts as they stand, of which nothing came to life since, and which can be merged as they were.
func mayJob(p api.Pile, j api.Job) bool {
	parts := of(p.Parts, j.From)
	if len(parts) == 0 || !slices.Equal(numbers(parts), j.From) {
		return false
	}
	if !slices.EqualFunc(parts, j.Was, func(part api.Part, was []bool) bool { return live.Less(part.Live, was) }) {
		return false
	}
	segs, _ := apart(parts)
	_, _, e := merge.Merge(segs, j.Was, p.C.Sort)
	return e == api.OK
}

// within tells whether n is one of the numbers from the least to the most.
func within(n, least, most int) bool {
	return n >= least && n <= most
}

// unlike tells whether no two are the same.
func unlike[T cmp.Ordered](l []T) bool {
	return len(slices.Compact(slices.Sorted(slices.Values(l)))) == len(l)
}
