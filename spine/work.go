package spine

import (
	"belvedere/api"
	"belvedere/queue"
	"belvedere/zset"
)

// merging is a merge of a spine's first batches. The spine keeps these until the merge is at its end, so that half of it is never told.
type merging struct {
	many int         // so many first batches
	rest queue.Queue // what is left of them
	sum  []api.Entry // of what was gone through
}

// step does a part of the work: it goes through at most fuel entries, and is how many it went through.
type step func(fuel int) int

// Work merges batches: it goes through at most fuel entries, and is how many it went through.
func (s *Spine) Work(fuel int) int {
	through := 0
	for next := s.next(fuel); next != nil; next = s.next(fuel - through) {
		through += next(fuel - through)
	}
	return through
}

// next is what is done next with that fuel; nil: nothing.
func (s *Spine) next(fuel int) step {
	switch {
	case s.under != nil && s.under.rest.Empty():
		return s.end
	case fuel < 1 || len(s.batches) < 2:
		return nil
	case s.under == nil || s.late() && fuel >= s.entries():
		return s.begin
	}
	return s.under.goOn
}

// late tells whether batches came behind the beginning of the merge that is under way. To end it and then merge the rest may take more than all entries that there are; to begin again does not.
func (s *Spine) late() bool { return s.under.many < len(s.batches) }

// entries is how many there are in all batches.
func (s *Spine) entries() int {
	n := 0
	for _, z := range s.batches {
		n += len(z)
	}
	return n
}

// begin is the step that begins a merge of all batches; what was under way is lost.
func (s *Spine) begin(int) int {
	s.under = &merging{many: len(s.batches), rest: queue.Of(s.batches)}
	return 0
}

// end is the step that puts what a merge made where its batches were.
func (s *Spine) end(int) int {
	s.batches = append(put(nil, s.under.sum), s.batches[s.under.many:]...)
	s.under = nil
	return 0
}

// goOn is the step that goes through entries, row by row.
func (m *merging) goOn(fuel int) int {
	n := 0
	for ; n < fuel && !m.rest.Empty(); n++ {
		m.add(m.rest.First()[0])
		m.rest.Skip(1)
	}
	return n
}

// add counts e in, whose row is the last of the sum, or behind it. A weight may wrap round, and come to 0, on the way: it is right when all of its row's entries are counted in, as it is then no more than an int64 holds.
func (m *merging) add(e api.Entry) {
	last := len(m.sum) - 1
	if last < 0 || zset.Get(m.sum[last:], e.Row) == 0 {
		m.sum = append(m.sum, e)
		return
	}
	m.sum[last].Weight += e.Weight
	if m.sum[last].Weight == 0 {
		m.sum = m.sum[:last]
	}
}
