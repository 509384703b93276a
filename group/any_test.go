package group_test

import (
	"fmt"
	"slices"
	"testing"

	"kissinggate/api"
	"kissinggate/group"
	"kissinggate/raft"
)

// drawing draws numbers below n, the same ones of each seed.
func drawing(x uint32) func(n int) int {
	x = x*2654435761 + 97
	return func(n int) int {
		x = x*1664525 + 1013904223
		return int(x>>12) % n
	}
}

// weather is how often of a hundred each kind of step comes; what is left are ticks.
type weather struct {
	name                                                 string
	deliver, drop, double, propose, crash, restart, torn int
}

var weathers = []weather{
	{"calm", 70, 0, 0, 8, 0, 0, 0},
	{"with losses", 60, 8, 4, 8, 0, 0, 0},
	{"with crashes", 64, 1, 3, 8, 1, 6, 0},
	{"torn", 61, 1, 4, 8, 0, 7, 2},
	{"storm", 57, 4, 5, 8, 1, 7, 2},
	{"doubled", 50, 1, 20, 8, 1, 4, 1},
}

// step draws a step; of the nodes one may be given more of the ticks than the others.
func (w weather) step(draw func(n int) int, b *both, hot int) api.Step {
	n, flight := len(b.h.places), len(b.h.flight)
	s := api.Step{Kind: api.StepTick, Node: draw(n), I: draw(flight + 1), Draw: draw(12) - 2, Keep: draw(4) * draw(60), At: draw(60) - 2, By: byte(draw(3))}
	s.Data = fmt.Sprint("data ", draw(1000))
	if draw(4) > 0 {
		s.I = draw(min(flight, 2) + 1) // else those under way grow old
	}
	at := draw(100)
	kinds := []int{api.StepDeliver, api.StepDrop, api.StepDouble, api.StepPropose, api.StepCrash, api.StepRestart, api.StepTorn}
	for i, often := range []int{w.deliver, w.drop, w.double, w.propose, w.crash, w.restart, w.torn} {
		if at -= often; at < 0 {
			s.Kind = kinds[i]
			break
		}
	}
	leader, found := b.h.leader()
	down := slices.IndexFunc(b.h.places, func(p place) bool { return p.node == nil })
	switch {
	case s.Kind == api.StepTick && draw(3) > 0:
		s.Node = hot
	case s.Kind == api.StepPropose && found && draw(4) > 0:
		s.Node = leader
	case s.Kind == api.StepRestart && down >= 0 && draw(4) > 0:
		s.Node = down
	}
	return s
}

// wrong makes a step one that often can't be done.
func wrong(draw func(n int) int, s api.Step) api.Step {
	s.Kind, s.Node, s.I = draw(11)-1, s.Node+draw(9)-4, s.I+draw(9)-4
	return s
}

// witness saw all that a group did.
type witness struct {
	t       *testing.T
	g       *group.Group
	leaders map[int]int    // by term
	votes   map[[2]int]int // by who votes, and the term
	agreed  []api.Entry    // what one has committed
	kept    []kept         // by node
}

// kept is what a node had when it ran last, all of it synced.
type kept struct {
	s      api.State
	commit int
	size   int  // of its disk
	exact  bool // it went down, and no part of what wasn't synced stays
	down   bool
}

func newWitness(t *testing.T, g *group.Group) *witness {
	w := &witness{t: t, g: g, leaders: map[int]int{}, votes: map[[2]int]int{}, kept: make([]kept, g.Len())}
	for i := range w.kept {
		w.kept[i].s = g.Node(i).State()
	}
	return w
}

// see looks at all behind a step.
func (w *witness) see(s api.Step) {
	where := told(s)
	for i := range w.kept {
		x, k := w.g.Node(i), &w.kept[i]
		if x == nil && !k.down {
			k.down, k.exact = true, s.Kind == api.StepCrash || s.Keep <= 0
		}
		if x == nil {
			continue
		}
		w.seeLeader(where, i, x)
		w.seeCommitted(where, i, x)
		w.seeKept(where, i, x.State())
		*k = kept{s: x.State(), commit: x.Commit(), size: w.g.Disk(i).Len()}
	}
	for _, m := range w.g.Flight() {
		w.seeVote(where, m)
	}
}

// seeLeader: in a term one leads at most.
func (w *witness) seeLeader(where string, i int, x *raft.Node) {
	if x.Role() != raft.Leader {
		return
	}
	if other, led := w.leaders[x.Term()]; led && other != i {
		w.t.Fatalf("%s: in the term %d both %d and %d led", where, x.Term(), other, i)
	}
	w.leaders[x.Term()] = i
}

// seeCommitted: what one has committed no other one has otherwise, ever.
func (w *witness) seeCommitted(where string, i int, x *raft.Node) {
	l := x.Committed(1)
	n := min(len(l), len(w.agreed))
	if !slices.Equal(l[:n], w.agreed[:n]) {
		w.t.Fatalf("%s: the node %d has otherwise committed", where, i)
	}
	w.agreed = append(w.agreed, l[n:]...)
}

// seeKept: all that a running node has is synced, and behind a restart what was synced is there.
func (w *witness) seeKept(where string, i int, s api.State) {
	k := w.kept[i]
	d := w.g.Disk(i)
	if d.Synced() != d.Len() || d.Len() == k.size && !k.down && !alikeStates(s, k.s) || d.Len() != k.size && !alikeStates(s, stateOf(w.t, d.Bytes())) {
		w.t.Fatalf("%s: what the node %d has isn't what is synced", where, i)
	}
	if s.Term < k.s.Term || s.Term == k.s.Term && k.s.Vote >= 0 && s.Vote != k.s.Vote {
		w.t.Fatalf("%s: a term or a vote of the node %d went: %d, %d; it was %d, %d", where, i, s.Term, s.Vote, k.s.Term, k.s.Vote)
	}
	if len(s.Entries) < k.commit || !slices.Equal(s.Entries[:k.commit], k.s.Entries[:k.commit]) {
		w.t.Fatalf("%s: what was committed by the node %d went", where, i)
	}
	if k.down && k.exact && !alikeStates(s, k.s) {
		w.t.Fatalf("%s: the node %d hasn't what was synced", where, i)
	}
}

// seeVote: in a term a node votes for one at most.
func (w *witness) seeVote(where string, m api.Message) {
	by, to := [2]int{m.From, m.Term}, m.To
	switch {
	case m.Kind == api.AskVote:
		to = m.From
	case m.Kind != api.TellVote || !m.Yes:
		return
	}
	if other, voted := w.votes[by]; voted && other != to {
		w.t.Fatalf("%s: the node %d votes for %d and %d in the term %d", where, m.From, other, to, m.Term)
	}
	w.votes[by] = to
}

// P10.1, P10.2: any steps, one behind the other, answer as by hand; in a term one leads at most, what is committed stays, and what was synced is recovered.
func TestAnySteps(t *testing.T) {
	for _, w := range weathers {
		for _, n := range sizes {
			t.Run(fmt.Sprintf("%s, %d nodes", w.name, n), func(t *testing.T) {
				t.Parallel()
				agreed, led := 0, 0
				for seed := range 3 {
					b := newBoth(t, n)
					x := anySteps(t, b, w, drawing(uint32(seed*10+n)), 300+120*n)
					agreed, led = agreed+len(x.agreed), led+len(x.leaders)
				}
				if agreed < 3 || led < 3 {
					t.Errorf("%d led, and %d were committed: too few to tell anything", led, agreed)
				}
			})
		}
	}
}

func anySteps(t *testing.T, b *both, w weather, draw func(n int) int, steps int) *witness {
	x := newWitness(t, b.g)
	hot := 0
	for range steps {
		if draw(60) == 0 {
			hot = draw(b.g.Len())
		}
		s := w.step(draw, b, hot)
		if draw(40) == 0 {
			s = wrong(draw, s)
		}
		b.any(s)
		x.see(s)
	}
	return x
}

// calm lets time go on for all, by draws, with all messages delivered, until all follow one that leads: behind how many ticks of each.
func (b *both) calm(draw func(n int) int) int {
	for ticks := range 200 {
		if b.allFollow() {
			return ticks
		}
		for i := range b.g.Len() {
			b.g.Do(tick(i, draw(100)))
			if b.g.Settle(100000) == 100000 {
				b.t.Fatal("there is no end of messages")
			}
		}
	}
	b.t.Fatal("none leads")
	return 0
}

func (b *both) allFollow() bool {
	leader, found := b.g.Leader()
	for i := range b.g.Len() {
		x := b.g.Node(i)
		found = found && x.Leader() == leader && x.Term() == b.g.Node(leader).Term()
	}
	return found
}

// mustAgree: what is proposed to the one that leads is committed by all, behind all that was committed.
func (b *both) mustAgree(agreed []api.Entry) {
	b.t.Helper()
	leader, _ := b.g.Leader()
	x := b.g.Node(leader)
	for _, data := range []string{"first", "second"} {
		if why := b.g.Do(propose(leader, data)); why != api.OK {
			b.t.Fatalf("a proposal answers %d", why)
		}
		for range 3 {
			b.g.Settle(10000)
			b.g.Do(tick(leader, 0)) // each second one tells the others what is committed
		}
		b.g.Settle(10000)
		all := x.Committed(1)
		if x.Commit() != x.Last() || !slices.Equal(all[:len(agreed)], agreed) || all[len(all)-1] != (api.Entry{Term: x.Term(), Data: data}) {
			b.t.Fatalf("of %d entries %d are committed, or what was committed went", x.Last(), x.Commit())
		}
		for i := range b.g.Len() {
			if !slices.Equal(b.g.Node(i).Committed(1), all) {
				b.t.Fatalf("the node %d has committed %d, not %d", i, b.g.Node(i).Commit(), len(all))
			}
		}
	}
}

// P10.3: where all run, and messages come, one leads soon, after any steps, and what is proposed to it is committed by all.
func TestSoonOneLeads(t *testing.T) {
	for _, w := range weathers {
		for _, n := range sizes {
			t.Run(fmt.Sprintf("%s, %d nodes", w.name, n), func(t *testing.T) {
				t.Parallel()
				for seed := range 6 {
					b := newBoth(t, n)
					draw := drawing(uint32(seed*10 + n + 5))
					x := anySteps(t, b, w, draw, 40*n*seed)
					for i := range n {
						b.g.Do(restart(i))
					}
					if ticks := b.calm(draw); ticks > 40 {
						t.Errorf("one leads behind %d ticks", ticks)
					}
					b.mustAgree(x.agreed)
				}
			})
		}
	}
}
