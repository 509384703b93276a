package group_test

import (
	"bytes"
	"slices"
	"testing"

	"kissinggate/api"
	"kissinggate/group"
	"kissinggate/hard"
	"kissinggate/raft"
	"kissinggate/wal"
)

// hand is a group told in another way than the program's: for each node a row of records, how many bytes of them are synced, and what it was when it runs.
type hand struct {
	places []place
	flight []api.Message
}

type place struct {
	bytes  []byte
	synced int
	node   *raft.Node
}

func byHand(t *testing.T, n int) *hand {
	h := &hand{places: make([]place, n)}
	for i := range h.places {
		h.places[i].node = h.wake(t, i, api.State{Vote: -1})
	}
	return h
}

func (h *hand) wake(t *testing.T, i int, s api.State) *raft.Node {
	t.Helper()
	x, fault := raft.New(i, len(h.places), 4, 2, s)
	if fault != api.OK {
		t.Fatalf("no node can be made of %v", s)
	}
	return x
}

// do tells what a step is answered, and does it.
func (h *hand) do(t *testing.T, s api.Step) api.Errno {
	switch s.Kind {
	case api.StepTick, api.StepPropose, api.StepCrash, api.StepRestart:
		if s.Node < 0 || s.Node >= len(h.places) {
			return api.ErrNone
		}
		return h.doPlace(t, s, &h.places[s.Node])
	case api.StepDeliver, api.StepDrop, api.StepDouble, api.StepTorn:
		if s.I < 0 || s.I >= len(h.flight) {
			return api.ErrNone
		}
		return h.doMessage(s, h.flight[s.I])
	}
	return api.ErrArg
}

func (h *hand) doPlace(t *testing.T, s api.Step, p *place) api.Errno {
	switch {
	case s.Kind == api.StepRestart && p.node != nil:
		return api.ErrState
	case s.Kind == api.StepRestart:
		return h.restart(t, s.Node, p)
	case p.node == nil:
		return api.ErrDown
	}
	var why api.Errno
	switch s.Kind {
	case api.StepTick:
		p.node.Tick(s.Draw)
	case api.StepPropose:
		_, why = p.node.Propose(s.Data)
	case api.StepCrash:
		p.fall(s)
		return api.OK
	}
	h.goOn(p)
	return why
}

func (h *hand) doMessage(s api.Step, m api.Message) api.Errno {
	if s.Kind == api.StepDouble {
		if len(h.flight) == api.MaxFlight {
			return api.ErrFull
		}
		h.flight = append(h.flight, m)
		return api.OK
	}
	h.flight = slices.Concat(h.flight[:s.I], h.flight[s.I+1:])
	p := &h.places[m.To]
	switch {
	case s.Kind == api.StepDrop:
		return api.OK
	case p.node == nil:
		return api.ErrDown
	}
	p.node.Step(m)
	if s.Kind == api.StepTorn {
		p.write()
		p.fall(s)
		return api.OK
	}
	h.goOn(p)
	return api.OK
}

// goOn keeps what changed, and sends what is to be sent.
func (h *hand) goOn(p *place) {
	wrote, all := p.write()
	if !all {
		p.node = nil
		return
	}
	if wrote {
		p.synced = len(p.bytes)
	}
	for _, m := range p.node.Out() {
		if len(h.flight) < api.MaxFlight {
			h.flight = append(h.flight, m)
		}
	}
}

// write tells whether there was something, and whether there was room for all of it.
func (p *place) write() (wrote, all bool) {
	save, some := p.node.Save()
	for _, r := range hard.Records(save) {
		b, _ := wal.Bytes(r)
		if len(p.bytes)+len(b) > api.MaxDisk {
			return some, false
		}
		p.bytes = append(p.bytes, b...)
	}
	return some, true
}

func (p *place) fall(s api.Step) {
	p.node = nil
	tail := p.bytes[p.synced:]
	if s.Keep < len(tail) {
		tail = tail[:max(s.Keep, 0)]
	}
	if s.At >= 0 && s.At < len(tail) {
		tail[s.At] ^= s.By
	}
	p.bytes = p.bytes[:p.synced+len(tail)]
}

func (h *hand) restart(t *testing.T, i int, p *place) api.Errno {
	records, end, _ := wal.Read(p.bytes)
	if end < p.synced {
		return api.ErrCheck
	}
	p.bytes, p.synced = p.bytes[:end], end
	s, fault := hard.Play(records)
	if fault == api.OK {
		p.node = h.wake(t, i, s)
	}
	return fault
}

func (h *hand) leader() (int, bool) {
	best := -1
	for i, p := range h.places {
		if p.node.Role() == raft.Leader && (best < 0 || p.node.Term() > h.places[best].node.Term()) {
			best = i
		}
	}
	return max(best, 0), best >= 0
}

// view is what a node tells in numbers.
type view struct {
	role, term, leader, commit, last int
}

func viewOf(x *raft.Node) view {
	return view{x.Role(), x.Term(), x.Leader(), x.Commit(), x.Last()}
}

// head is a message without its entries.
type head struct {
	kind, from, to, term   int
	index, logTerm, commit int
	yes                    bool
}

func headOf(m api.Message) head {
	return head{m.Kind, m.From, m.To, m.Term, m.Index, m.LogTerm, m.Commit, m.Yes}
}

func alikeMessages(a, b api.Message) bool {
	return headOf(a) == headOf(b) && slices.Equal(a.Entries, b.Entries)
}

func alikeStates(a, b api.State) bool {
	return a.Term == b.Term && a.Vote == b.Vote && slices.Equal(a.Entries, b.Entries)
}

// mustBeAlike: the group tells what it is told to be by hand.
func mustBeAlike(t *testing.T, where string, g *group.Group, h *hand) {
	if g.Len() != len(h.places) {
		t.Fatalf("%s: there are %d nodes, not %d", where, g.Len(), len(h.places))
	}
	for i, p := range h.places {
		mustBePlace(t, where, g, i, p)
	}
	leader, found := h.leader()
	mustLead(t, where, g, leader, found)
	mustFly(t, where, g, h.flight)
}

func mustBePlace(t *testing.T, where string, g *group.Group, i int, want place) {
	x := g.Node(i)
	if (x == nil) != (want.node == nil) {
		t.Fatalf("%s: the node %d is down: %t, and should be: %t", where, i, x == nil, want.node == nil)
	}
	if got, want := viewOf(x), viewOf(want.node); got != want {
		t.Fatalf("%s: the node %d is %+v, not %+v", where, i, got, want)
	}
	if !alikeStates(x.State(), want.node.State()) {
		t.Fatalf("%s: the node %d has another state", where, i)
	}
	mustKeep(t, where, g, i, want.bytes, want.synced)
}

// mustKeep: a node's disk has these bytes, the first so many of them synced.
func mustKeep(t *testing.T, where string, g *group.Group, i int, want []byte, synced int) {
	d := g.Disk(i)
	if d == nil {
		t.Fatalf("%s: there is no disk %d", where, i)
	}
	if d.Len() != len(want) || d.Synced() != synced || !bytes.Equal(d.Bytes(), want) {
		t.Fatalf("%s: the disk %d has %d bytes, %d synced, not %d, %d, or other ones", where, i, d.Len(), d.Synced(), len(want), synced)
	}
}

// mustFly: these messages are under way, in this order.
func mustFly(t *testing.T, where string, g *group.Group, want []api.Message) {
	got := g.Flight()
	for i := range min(len(got), len(want)) {
		if !alikeMessages(got[i], want[i]) {
			t.Fatalf("%s: under way at %d is %+v, not %+v", where, i, got[i], want[i])
		}
	}
	if len(got) != len(want) {
		t.Fatalf("%s: %d messages are under way, not %d", where, len(got), len(want))
	}
}

func mustLead(t *testing.T, where string, g *group.Group, want int, found bool) {
	if i, some := g.Leader(); i != want || some != found {
		t.Fatalf("%s: Leader answers %d, %t, not %d, %t", where, i, some, want, found)
	}
}
