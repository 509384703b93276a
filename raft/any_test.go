package raft_test

import (
	"fmt"
	"math"
	"slices"
	"testing"

	"kissinggate/api"
	"kissinggate/hard"
	"kissinggate/raft"
)

// drawing draws numbers below n, the same ones of each seed.
func drawing(x uint32) func(n int) int {
	x = x*2654435761 + 97
	return func(n int) int {
		x = x*1664525 + 1013904223
		return int(x>>12) % n
	}
}

// pair is a node, the same one by hand, and what it was seen to do.
type pair struct {
	t         *testing.T
	x         *raft.Node
	h         *hand
	term      int
	commit    int
	votes     map[int]int // by term
	committed []api.Entry
	saved     api.State // what was saved, one save upon another
}

func newPair(t *testing.T, id, n, elect, beat int, s api.State) *pair {
	t.Helper()
	x, fault := raft.New(id, n, elect, beat, s)
	if fault != api.OK {
		t.Fatalf("New: %d", fault)
	}
	return &pair{t: t, x: x, h: byHand(id, n, elect, beat, s), term: s.Term, votes: map[int]int{}, saved: s}
}

// tick ticks both. A candidate's ticks go on till it asks again: the chapter's words for since may be read in two ways where some go by between standing and leading.
func (p *pair) tick(where string, draw int) {
	for {
		if p.h.role == raft.Candidate && p.h.term == api.MaxTerm {
			return
		}
		p.x.Tick(draw)
		p.h.tick(draw)
		p.mustBeAlike(where)
		if p.h.role != raft.Candidate || p.t.Failed() {
			return
		}
	}
}

func (p *pair) step(where string, m api.Message) {
	entries := slices.Clone(m.Entries)
	p.x.Step(m)
	if !slices.Equal(m.Entries, entries) {
		p.t.Errorf("%s: a message was changed", where)
	}
	p.h.step(m)
	p.mustBeAlike(where)
}

func (p *pair) propose(where, data string) {
	index, fault := p.x.Propose(data)
	want := p.h.propose(data)
	last := 0
	if want == api.OK {
		last = len(p.h.row) - 1
	}
	if fault != want || index != last {
		p.t.Errorf("%s: Propose answers %d, %d, not %d, %d", where, index, fault, last, want)
	}
	p.mustBeAlike(where)
}

// mustBeAlike: both tell the same, and P8.2 holds.
func (p *pair) mustBeAlike(where string) {
	p.t.Helper()
	mustBe(p.t, where, p.x, p.h.view())
	s := p.x.State()
	if !alikeStates(s, p.h.state()) {
		p.t.Errorf("%s: its state is %+v, not %+v", where, s, p.h.state())
	}
	if p.x.Term() < p.term || p.x.Commit() < p.commit {
		p.t.Errorf("%s: the term falls from %d to %d, or what is committed from %d to %d", where, p.term, p.x.Term(), p.commit, p.x.Commit())
	}
	p.term, p.commit = p.x.Term(), p.x.Commit()
	if vote, voted := p.votes[s.Term]; voted && vote != s.Vote {
		p.t.Errorf("%s: in the term %d it voted for %d and %d", where, s.Term, vote, s.Vote)
	}
	if s.Vote != -1 {
		p.votes[s.Term] = s.Vote
	}
	committed := p.x.Committed(1)
	if len(committed) != p.commit || !slices.Equal(committed[:min(len(p.committed), len(committed))], p.committed) {
		p.t.Errorf("%s: what was committed doesn't stay", where)
	}
	p.committed = committed
	if !hard.Right(s) {
		p.t.Errorf("%s: the state %+v may not be", where, s)
	}
}

// keep takes what both save, and what both send.
func (p *pair) keep(where string) []api.Message {
	p.t.Helper()
	s, changed := p.x.Save()
	want, must := p.h.save()
	if changed != must || !alikeSaves(s, want) {
		p.t.Errorf("%s: it saves %+v, %v, not %+v, %v", where, s, changed, want, must)
	}
	if s.Hard {
		p.saved.Term, p.saved.Vote = s.Term, s.Vote
	}
	if len(s.Entries) > 0 {
		p.saved.Entries = append(slices.Clone(p.saved.Entries[:s.From-1]), s.Entries...)
	}
	if !alikeStates(p.saved, p.x.State()) {
		p.t.Errorf("%s: what was saved is %+v, not the state", where, p.saved)
	}
	out, mustOut := p.x.Out(), p.h.sent()
	if !slices.EqualFunc(out, mustOut, alikeMessages) {
		p.t.Errorf("%s: it sends\n%+v, not\n%+v", where, out, mustOut)
	}
	return out
}

// raw is any message at all, mostly one that the node may take: near what it has.
func raw(h *hand, draw func(n int) int) api.Message {
	last := len(h.row) - 1
	about := func(near ...int) int {
		if draw(25) == 0 {
			return []int{math.MinInt, math.MinInt + 1, -1, 0, 1, api.MaxTerm + 1, math.MaxInt - 1, math.MaxInt}[draw(8)]
		}
		return near[draw(len(near))]
	}
	m := api.Message{Kind: 1 + draw(6), From: draw(h.n), To: h.id, Yes: draw(3) > 0}
	if m.From == h.id && draw(9) > 0 {
		m.From = (m.From + 1) % h.n
	}
	if draw(40) == 0 {
		m.Kind, m.From, m.To = about(0, 7, 8), about(0, h.n, -1), about(h.id, h.id+1, -1)
	}
	m.Term = about(h.term, h.term, h.term, h.term, h.term, h.term+1, h.term+1, h.term-1)
	m.Index = about(last, last, last-1, last+1, h.commit, h.commit-1, h.commit+1, draw(last+1))
	if m.Index >= 0 && m.Index <= last {
		m.LogTerm = h.row[m.Index].Term
	}
	m.LogTerm = about(m.LogTerm, m.LogTerm, m.LogTerm, m.LogTerm, m.LogTerm+1, m.LogTerm-1)
	m.Commit = about(0, h.commit, m.Index, m.Index+draw(3), last)
	term := m.LogTerm
	for draw(3) > 0 && len(m.Entries) < 10 {
		term = about(term, term, term, term+draw(2), max(term, m.Term), max(term, 1))
		m.Entries = append(m.Entries, api.Entry{Term: term, Data: fmt.Sprint("raw ", draw(1000))})
	}
	return m
}

// P8.1, P8.2: any messages at all, one behind the other, between ticks and proposals.
func TestAnyMessages(t *testing.T) {
	for seed := range uint32(400) {
		draw := drawing(seed)
		n := 1 + draw(api.MaxNodes)
		wait := 1 + draw(5)
		s := with(3, []int{1, 1, 2, 3}[:draw(5)]...)
		s.Vote = draw(n+1) - 1
		if seed%20 == 7 {
			s.Term = api.MaxTerm - 2
		}
		p := newPair(t, draw(n), n, wait, 1+draw(wait), s)
		for i := 0; i < 400 && !t.Failed(); i++ {
			where := fmt.Sprintf("seed %d, %d-th, %+v", seed, i, p.h.view())
			switch k := draw(12); {
			case k < 3:
				p.tick(where, draw(9)-1)
			case k == 3:
				p.propose(where, fmt.Sprint("p ", i))
			case k < 6 && p.h.role == raft.Asker:
				p.step(where, api.Message{Kind: api.TellPre, From: draw(n), To: p.h.id, Term: p.h.term + 1, Yes: true})
			case k < 6 && p.h.role == raft.Candidate:
				p.step(where, api.Message{Kind: api.TellVote, From: draw(n), To: p.h.id, Term: p.h.term, Yes: true})
			default:
				m := raw(p.h, draw)
				p.step(fmt.Sprintf("%s, %+v", where, m), m)
			}
			if draw(3) > 0 {
				p.keep(where)
			}
		}
		p.keep(fmt.Sprintf("seed %d, at the end", seed))
	}
}

// crowd is nodes, and what is under way between them.
type crowd struct {
	t      *testing.T
	nodes  []*pair
	flight []api.Message
	leads  map[int]int // who led, by term
	chosen []api.Entry // what was committed by any of them
}

func newCrowd(t *testing.T, n, elect, beat int, states ...api.State) *crowd {
	t.Helper()
	c := &crowd{t: t, leads: map[int]int{}}
	for id := range n {
		s := atFirst()
		if id < len(states) {
			s = states[id]
		}
		c.nodes = append(c.nodes, newPair(t, id, n, elect, beat, s))
	}
	return c
}

// gather takes what a node sends, and holds it against what others led and committed.
func (c *crowd) gather(where string, id int) {
	c.t.Helper()
	p := c.nodes[id]
	c.flight = append(c.flight, p.keep(where)...)
	if p.x.Role() == raft.Leader {
		if who, led := c.leads[p.x.Term()]; led && who != id {
			c.t.Errorf("%s: %d and %d lead in the term %d", where, who, id, p.x.Term())
		}
		c.leads[p.x.Term()] = id
	}
	both := min(len(p.committed), len(c.chosen))
	if !slices.Equal(p.committed[:both], c.chosen[:both]) {
		c.t.Errorf("%s: %d has committed %+v, another one %+v", where, id, p.committed, c.chosen)
	}
	if len(p.committed) > both {
		c.chosen = p.committed
	}
}

func (c *crowd) tick(where string, id, draw int) {
	c.nodes[id].tick(where, draw)
	c.gather(where, id)
}

func (c *crowd) propose(where string, id int, data string) {
	c.nodes[id].propose(where, data)
	c.gather(where, id)
}

// deliver takes the i-th message out; one to or from a node that is cut off is lost.
func (c *crowd) deliver(where string, i int, cut ...int) {
	m := c.flight[i]
	c.flight = slices.Delete(c.flight, i, i+1)
	if slices.Contains(cut, m.To) || slices.Contains(cut, m.From) {
		return
	}
	c.nodes[m.To].step(where, m)
	c.gather(where, m.To)
}

func (c *crowd) settle(where string, cut ...int) {
	c.t.Helper()
	for n := 0; len(c.flight) > 0; n++ {
		if n > 20000 || c.t.Failed() {
			c.t.Fatalf("%s: messages without end", where)
		}
		c.deliver(where, 0, cut...)
	}
}

// lead has a node ask, stand and lead, with all messages delivered but those of the ones that are cut off.
func (c *crowd) lead(where string, id int, cut ...int) {
	c.t.Helper()
	for n := 0; c.nodes[id].x.Role() != raft.Leader; n++ {
		if n > 100 || c.t.Failed() {
			c.t.Fatalf("%s: %d doesn't lead", where, id)
		}
		for other := range c.nodes { // the others don't ask ahead of it
			if other != id && !slices.Contains(cut, other) && c.nodes[other].x.Leader() != -1 {
				c.tick(where, other, 99)
				c.settle(where, cut...)
			}
		}
		c.tick(where, id, 0)
		c.settle(where, cut...)
	}
}

func (c *crowd) mustAllHave(where string, want []api.Entry, ids ...int) {
	c.t.Helper()
	for _, id := range ids {
		mustCommit(c.t, fmt.Sprintf("%s: node %d", where, id), c.nodes[id].x, want)
		if got := c.nodes[id].x.State().Entries; !slices.Equal(got, want) {
			c.t.Errorf("%s: node %d has %+v, not %+v", where, id, got, want)
		}
	}
}

// P8.1: three and five nodes ask, vote, lead, send and commit; a follower that is behind is led up, and one that is ahead, or has others, takes what the leader has.
func TestACrowd(t *testing.T) {
	for _, n := range []int{2, 3, 5} {
		behind, ahead := with(3, 1), with(3, 1, 2, 2, 2, 2, 2, 2)
		states := []api.State{with(4, 1, 3, 3), behind, with(4, 1, 3, 3), ahead, atFirst()}
		c := newCrowd(t, n, 8, 2, states[:n]...)
		has := append(of(1, 3, 3), api.Entry{Term: 5})
		c.lead("they choose", 0)
		ids := []int{0, 1, 2, 3, 4}[:n]
		c.mustAllHave("the first entry", has, ids...)
		for id := range n {
			if x := c.nodes[id].x; x.Leader() != 0 || x.Term() != 5 {
				t.Errorf("node %d of %d: %+v", id, n, viewOf(x))
			}
		}
		for i := range 3 * api.MaxBatch {
			data := fmt.Sprint("the ", i)
			c.propose("proposed", 0, data)
			has = append(has, api.Entry{Term: 5, Data: data})
			if i%5 == 0 {
				c.settle("proposed")
				c.mustAllHave("proposed", has, ids...)
			}
		}
		c.settle("all of it")
		c.mustAllHave("all of it", has, ids...)
	}
}

// P8.1, P8.2: what a leader that was cut off has, and nobody else, goes; what it had committed stays.
func TestALeaderThatIsCutOff(t *testing.T) {
	c := newCrowd(t, 3, 4, 2)
	c.lead("at first", 0)
	c.propose("to all", 0, "stays")
	c.settle("to all")
	has := []api.Entry{{Term: 1}, {Term: 1, Data: "stays"}}
	c.mustAllHave("to all", has, 0, 1, 2)

	c.propose("cut off", 0, "goes")
	c.propose("cut off", 0, "goes, too")
	c.settle("cut off", 0)
	c.lead("without it", 1, 0)
	c.propose("without it", 1, "new")
	c.settle("without it", 0)
	has = append(has, api.Entry{Term: 2}, api.Entry{Term: 2, Data: "new"})
	c.mustAllHave("without it", has, 1, 2)
	if x := c.nodes[0].x; x.Role() != raft.Leader || x.Last() != 4 || x.Commit() != 2 {
		t.Errorf("cut off: %+v", viewOf(x))
	}

	c.tick("it is there again", 1, 0)
	c.tick("it is there again", 1, 0)
	c.settle("it is there again")
	c.mustAllHave("it is there again", has, 0, 1, 2)
	mustBe(t, "it is there again", c.nodes[0].x, view{raft.Follower, 2, 1, 4, 4})
}

// P8.2: whatever is lost, doubled, late, and raw of no effect, one leads in a term at most, and what one has committed no other one has otherwise.
func TestACrowdWhateverComes(t *testing.T) {
	for seed := range uint32(60) {
		draw := drawing(seed + 7000)
		n := 2 + draw(5)
		wait := 2 + draw(4)
		c := newCrowd(t, n, wait, 1+draw(wait))
		loss := draw(6)
		for i := 0; i < 1500 && !t.Failed(); i++ {
			where := fmt.Sprintf("seed %d, %d-th", seed, i)
			k := draw(20)
			switch {
			case k < 4 || len(c.flight) == 0 || len(c.flight) > 300:
				c.tick(where, draw(n), draw(100))
			case k < 6:
				c.propose(where, draw(n), where)
			case k < 6+loss:
				at := draw(len(c.flight))
				c.flight = slices.Delete(c.flight, at, at+1)
			case k == 12:
				c.flight = append(c.flight, c.flight[draw(len(c.flight))])
			default:
				c.deliver(where, draw(min(len(c.flight), 1+draw(30))))
			}
			if len(c.flight) > 300 {
				c.flight = slices.Delete(c.flight, 0, 100)
			}
		}
	}
}
