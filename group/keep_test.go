package group_test

import (
	"fmt"
	"math"
	"slices"
	"strings"
	"testing"

	"kissinggate/api"
	"kissinggate/disk"
	"kissinggate/group"
	"kissinggate/hard"
	"kissinggate/raft"
	"kissinggate/wal"
)

// bytesOf are a save's records as bytes.
func bytesOf(t *testing.T, s api.Save) []byte {
	t.Helper()
	d := disk.New()
	if why := hard.Write(d, s); why != api.OK {
		t.Fatalf("%v can't be written: %d", s, why)
	}
	return d.Bytes()
}

// stateOf is what bytes tell: of the last record that is whole, and those ahead.
func stateOf(t *testing.T, b []byte) api.State {
	t.Helper()
	records, _, _ := wal.Read(b)
	s, fault := hard.Play(records)
	if fault != api.OK {
		t.Fatalf("the records are no state: %d", fault)
	}
	return s
}

// mustState: a node runs, and this is its state.
func mustState(t *testing.T, where string, g *group.Group, i int, want api.State) {
	t.Helper()
	if got := g.Node(i).State(); g.Node(i) == nil || !alikeStates(got, want) {
		t.Fatalf("%s: the node %d runs: %t, with the term %d, the vote %d and %d entries, not %d, %d, %d, or other ones",
			where, i, g.Node(i) != nil, got.Term, got.Vote, len(got.Entries), want.Term, want.Vote, len(want.Entries))
	}
}

// P10.1: what is to be saved is written in one go, and synced, when something comes; else nothing is.
func TestWhatIsSaved(t *testing.T) {
	b := newBoth(t, 3)
	var want []byte
	saved := func(where string, i int, s api.Save) {
		t.Helper()
		want = append(want, bytesOf(t, s)...)
		mustKeep(t, where, b.g, i, want, len(want))
	}
	b.do(api.OK, tick(0, 0), tick(0, 0), tick(0, 0), tick(0, 0), deliver(0), drop(0))
	saved("it asks", 0, api.Save{})
	b.do(api.OK, deliver(0))
	saved("it stands", 0, api.Save{Hard: true, Term: 1, Vote: 0})
	b.do(api.OK, deliver(0), drop(0), deliver(0))
	saved("it leads", 0, api.Save{From: 1, Entries: []api.Entry{{Term: 1}}})
	b.settle()
	saved("it is committed", 0, api.Save{})
	b.do(api.OK, propose(0, "a"))
	saved("it is proposed to", 0, api.Save{From: 2, Entries: []api.Entry{{Term: 1, Data: "a"}}})
	b.settle()
	all := b.g.Disk(0).Len()
	if b.g.Disk(1).Len() != all {
		t.Error("the other one, which voted, has not what the leader has")
	}
	want = nil
	saved("it votes, and is led", 1, api.Save{Hard: true, Term: 1, Vote: 0, From: 1, Entries: []api.Entry{{Term: 1}, {Term: 1, Data: "a"}}})
	want = nil
	saved("it is led", 2, api.Save{Hard: true, Term: 1, Vote: -1, From: 1, Entries: []api.Entry{{Term: 1}, {Term: 1, Data: "a"}}})
}

// P10.1: when nothing is to be saved, nothing is written, and what isn't synced stays so.
func TestNothingIsSaved(t *testing.T) {
	g := group.New(3)
	g.Disk(1).Write([]byte("a tail"))
	g.Do(tick(1, 0))
	mustKeep(t, "a tick", g, 1, []byte("a tail"), 0)
	g.Do(propose(1, "a"))
	mustKeep(t, "a proposal to one that doesn't lead", g, 1, []byte("a tail"), 0)
}

// P10.1: behind a restart it is a follower with what its disk tells, and nothing else; a tail that isn't whole is cut.
func TestRestart(t *testing.T) {
	longest := strings.Repeat("m", api.MaxCommand)
	for _, s := range []api.State{
		{Vote: -1},
		{Term: 7, Vote: 2},
		{Term: 7, Vote: 0, Entries: []api.Entry{{Term: 1}, {Term: 7, Data: "a"}}},
		{Term: api.MaxTerm, Vote: api.MaxNodes - 1, Entries: slices.Repeat([]api.Entry{{Term: api.MaxTerm, Data: longest}}, api.MaxEntries)},
	} {
		g := group.New(3)
		g.Do(crash(1))
		b := bytesOf(t, api.Save{Hard: true, Term: s.Term, Vote: s.Vote, From: 1, Entries: s.Entries})
		g.Disk(1).Write(b)
		g.Disk(1).Sync()
		g.Disk(1).Write(bytesOf(t, api.Save{Hard: true, Term: s.Term, Vote: 1})[:20])
		if why := g.Do(restart(1)); why != api.OK {
			t.Errorf("it answers %d", why)
		}
		mustState(t, "behind a restart", g, 1, s)
		mustKeep(t, "behind a restart", g, 1, b, len(b))
		if got := viewOf(g.Node(1)); got != (view{term: s.Term, leader: -1, last: len(s.Entries)}) {
			t.Errorf("behind a restart it is %+v", got)
		}
	}
}

// P10.1: a node that restarts has its number, its group, and its ticks.
func TestARestartedNodeGoesOn(t *testing.T) {
	for _, n := range sizes {
		for i := range n {
			b := newBoth(t, n)
			b.do(api.OK, tick(i, 3), tick(i, 3), crash(i), restart(i))
			b.lead(i)
			b.do(api.OK, propose(i, "a"))
			b.settle()
			b.do(api.OK, crash(i), restart(i))
			for j := range 4 * n {
				if j%n != i {
					b.do(api.OK, tick(j%n, 3)) // it was led too long ago to keep its leader
				}
			}
			b.lead(i)
		}
	}
}

// P10.1: messages that were sent ahead of a crash come yet.
func TestMessagesOutliveACrash(t *testing.T) {
	b := newBoth(t, 3)
	b.lead(0)
	b.do(api.OK, propose(0, "a"), crash(0), deliver(0))
	if b.g.Node(1).Last() != 2 || len(b.g.Flight()) != 2 {
		t.Errorf("it has %d, and %d are under way", b.g.Node(1).Last(), len(b.g.Flight()))
	}
	b.do(api.OK, restart(0))
	b.settle()
}

// P10.1: a disk that tells no state leaves its node down, with its error, until it is mended.
func TestADiskThatTellsNoState(t *testing.T) {
	for _, c := range []struct {
		name string
		b    []byte
		want api.Errno
	}{
		{"no record", []byte("no record"), api.ErrCheck},
		{"the kind 3", must(wal.Bytes(wal.Record{Kind: 3})), api.ErrForm},
		{"a term without a vote", must(wal.Bytes(wal.Record{Kind: 1, Data: make([]byte, 8)})), api.ErrForm},
		{"a gap", bytesOf(t, api.Save{Hard: true, Term: 1, From: 2, Entries: []api.Entry{{Term: 1}}}), api.ErrForm},
		{"an entry above the term", bytesOf(t, api.Save{From: 1, Entries: []api.Entry{{Term: 1}}}), api.ErrForm},
	} {
		g := group.New(3)
		g.Do(crash(2))
		g.Disk(2).Write(c.b)
		g.Disk(2).Sync()
		for range 2 {
			if why := g.Do(restart(2)); why != c.want || g.Node(2) != nil {
				t.Errorf("%s: it answers %d, and runs: %t", c.name, why, g.Node(2) != nil)
			}
		}
		mustKeep(t, c.name, g, 2, c.b, len(c.b))
		for _, s := range []api.Step{tick(2, 0), propose(2, "a"), crash(2)} {
			if why := g.Do(s); why != api.ErrDown {
				t.Errorf("%s: it answers %d", told(s), why)
			}
		}
		g.Disk(2).Cut(0)
		if why := g.Do(restart(2)); why != api.OK {
			t.Errorf("%s: when it is mended, it answers %d", c.name, why)
		}
		mustState(t, c.name, g, 2, api.State{Vote: -1})
	}
}

func must(b []byte, fault api.Errno) []byte {
	if fault != api.OK {
		panic(fault)
	}
	return b
}

// P10.1: each synced byte that is spoilt is told.
func TestASpoiltDisk(t *testing.T) {
	b := newBoth(t, 3)
	b.lead(0)
	b.do(api.OK, crash(1))
	d := b.g.Disk(1)
	for at := range d.Len() {
		d.Spoil(at, 16)
		if why := b.g.Do(restart(1)); why == api.OK || b.g.Node(1) != nil {
			t.Errorf("with the byte %d spoilt it runs", at)
		}
		d.Spoil(at, 16)
	}
	b.do(api.OK, restart(1))
}

// appended is a group where an Append of two entries is under way to the node 1, which has other ones in their place; its term is to be saved, too.
func appended(t *testing.T) *both {
	t.Helper()
	b := newBoth(t, 3)
	b.lead(1)
	b.do(api.OK, propose(1, "lost"), propose(1, "lost too"), propose(1, "lost as well"))
	for len(b.h.flight) > 0 {
		b.do(api.OK, drop(0))
	}
	b.do(api.OK, crash(1))
	b.leadWithout1(0)
	b.do(api.OK, propose(0, "a"))
	for b.h.flight[0].To != 1 {
		b.any(drop(0))
	}
	b.do(api.OK, restart(1))
	return b
}

// leadWithout1 lets a node lead while the node 1 is down.
func (b *both) leadWithout1(node int) {
	b.t.Helper()
	for range 4 {
		b.do(api.OK, tick(0, 0), tick(2, 3))
	}
	for b.g.Node(node).Role() != raft.Leader {
		at := slices.IndexFunc(b.h.flight, func(m api.Message) bool { return m.To != 1 })
		b.do(api.OK, deliver(at))
	}
}

// P10.1, P10.2: of what a torn write wrote so many bytes stay, one of them spoilt; the records that are whole count, no message is sent, and what was synced is there.
func TestTorn(t *testing.T) {
	b := appended(t)
	was := b.g.Node(1).State()
	at := slices.IndexFunc(b.h.flight, func(m api.Message) bool { return m.To == 1 && m.Kind == api.Append })
	m := b.h.flight[at]
	if len(was.Entries) != 4 || m.Index != 1 || len(m.Entries) != 1 {
		t.Fatalf("a message %+v to a node with %d entries is no good try", m, len(was.Entries))
	}
	written := bytesOf(t, api.Save{Hard: true, Term: m.Term, Vote: -1, From: 2, Entries: m.Entries})
	synced := b.g.Disk(1).Bytes()
	states := map[int]int{}
	for keep := -1; keep <= len(written)+1; keep++ {
		for _, spoilt := range []int{-1, 0, 1, 3, 4, 11, 24, 25, 30, keep - 1, keep, math.MaxInt, math.MinInt} {
			for _, by := range []byte{0, 1, 255} {
				s := tornOnce(t, torn(at, keep, spoilt, by), synced, written)
				states[len(s.Entries)*10+s.Term]++
			}
		}
	}
	if len(states) != 3 {
		t.Errorf("behind all, the states %v are there, not three", states)
	}
}

// tornOnce does one torn step, and a restart behind it, and answers the state that was recovered.
func tornOnce(t *testing.T, s api.Step, synced, written []byte) api.State {
	t.Helper()
	b := appended(t)
	flight := b.g.Flight()
	b.do(api.OK, s)
	where := told(s)
	if b.g.Node(1) != nil {
		t.Fatalf("%s: the node runs", where)
	}
	mustFly(t, where, b.g, slices.Delete(flight, s.I, s.I+1))
	tail := slices.Clone(written[:max(0, min(s.Keep, len(written)))])
	if s.At >= 0 && s.At < len(tail) {
		tail[s.At] ^= s.By
	}
	all := slices.Concat(synced, tail)
	mustKeep(t, where, b.g, 1, all, len(synced))
	want := stateOf(t, all)
	b.do(api.OK, restart(1))
	mustState(t, where, b.g, 1, want)
	return want
}

// P10.1: a torn message by which nothing changes: the node is down, what it had is there, and it answers nothing.
func TestTornWithNothingToSave(t *testing.T) {
	b := newBoth(t, 3)
	b.lead(0)
	b.do(api.OK, tick(0, 0), tick(0, 0))
	was := b.g.Node(2).State()
	kept := b.g.Disk(2).Bytes()
	b.do(api.OK, torn(1, 99, 0, 1))
	if b.g.Node(2) != nil || len(b.g.Flight()) != 1 {
		t.Errorf("it runs: %t, and %d are under way", b.g.Node(2) != nil, len(b.g.Flight()))
	}
	mustKeep(t, "torn", b.g, 2, kept, len(kept))
	b.do(api.OK, restart(2))
	mustState(t, "torn", b.g, 2, was)
}

// P10.1: one that would lead by a torn message doesn't, and none hears of it.
func TestATornVote(t *testing.T) {
	for _, keep := range []int{0, 24, 25, 99} {
		b := newBoth(t, 3)
		b.do(api.OK, tick(0, 0), tick(0, 0), tick(0, 0), tick(0, 0), drop(1), deliver(0), torn(0, keep, -1, 0))
		mustFly(t, "it would stand", b.g, nil)
		b.do(api.OK, restart(0))
		b.lead(0)
	}
}

// filled is a group whose node runs on a disk with so many bytes left, of the state that is told.
func filled(t *testing.T, n, i, left int) (*group.Group, api.State) {
	t.Helper()
	g := group.New(n)
	g.Do(crash(i))
	s := api.State{Term: 5, Vote: -1, Entries: []api.Entry{{Term: 2, Data: ""}}}
	d := g.Disk(i)
	hard.Write(d, api.Save{Hard: true, Term: 5, Vote: -1, From: 1, Entries: s.Entries})
	const entry = 27 // bytes of one without data
	for rest := api.MaxDisk - left - d.Len(); rest > 0; rest = api.MaxDisk - left - d.Len() {
		size := min(rest, entry+api.MaxCommand)
		if rest > size && rest < size+entry {
			size -= entry
		}
		s.Entries[0].Data = strings.Repeat("f", size-entry)
		hard.Write(d, api.Save{From: 1, Entries: s.Entries})
	}
	d.Sync()
	if g.Do(restart(i)) != api.OK || d.Len() != api.MaxDisk-left {
		t.Fatalf("there are %d bytes, not %d left, or it doesn't run", api.MaxDisk-d.Len(), left)
	}
	return g, s
}

// P10.1: one whose disk can't take all goes down; what of it was written isn't synced, and counts when it is whole.
func TestAFullDisk(t *testing.T) {
	vote := len(bytesOf(t, api.Save{Hard: true, Term: 6}))
	both := len(bytesOf(t, api.Save{Hard: true, Term: 6, From: 2, Entries: []api.Entry{{Term: 6}}}))
	for _, left := range []int{0, 1, vote - 1, vote, vote + 1, both - 1, both, both + 1} {
		g, s := filled(t, 1, 0, left)
		b := g.Disk(0).Bytes()
		for range 4 {
			if why := g.Do(tick(0, 0)); why != api.OK {
				t.Errorf("%d left: a tick answers %d", left, why)
			}
		}
		where := fmt.Sprint(left, " left")
		saved := api.Save{Hard: true, Term: 6}
		if left >= both {
			saved.From, saved.Entries = 2, []api.Entry{{Term: 6}}
		}
		want, synced := b, len(b)
		if left >= vote {
			want = append(want, bytesOf(t, saved)...)
		}
		if left >= both {
			synced = len(want)
		}
		mustKeep(t, where, g, 0, want, synced)
		mustLead(t, where, g, 0, left >= both)
		if left >= both {
			continue
		}
		if g.Node(0) != nil || g.Do(tick(0, 0)) != api.ErrDown {
			t.Errorf("%s: it runs", where)
		}
		if left >= vote {
			s.Term, s.Vote = 6, 0
		}
		if g.Do(restart(0)) != api.OK {
			t.Errorf("%s: it doesn't restart", where)
		}
		mustState(t, where, g, 0, s)
		mustKeep(t, where, g, 0, want, len(want))
	}
}

// P10.1: what one whose disk can't take all would have sent is lost; the others go on without it.
func TestAFullDiskAmongOthers(t *testing.T) {
	g, _ := filled(t, 3, 1, 24)
	flight := func(want int) {
		t.Helper()
		if n := len(g.Flight()); n != want {
			t.Errorf("%d are under way, not %d", n, want)
		}
	}
	g.Do(crash(2))
	for range 4 {
		g.Do(tick(1, 0))
	}
	flight(2)
	g.Do(deliver(0)) // the node 0 would vote
	flight(2)
	if why := g.Do(deliver(1)); why != api.OK || g.Node(1) != nil {
		t.Errorf("it answers %d, and runs: %t", why, g.Node(1) != nil)
	}
	flight(1) // no vote is asked for
	g.Settle(9)
	g.Do(restart(2))
	for range 4 {
		g.Do(tick(0, 0))
	}
	g.Settle(99)
	mustLead(t, "the others", g, 0, true)
	if g.Do(propose(0, "a")) != api.OK || g.Settle(99) == 0 || g.Node(2).Commit() != 2 {
		t.Errorf("of the others %d are committed", g.Node(2).Commit())
	}
}

// P10.1: a torn write of more than the disk can take: of what it took so many bytes stay.
func TestAFullDiskTorn(t *testing.T) {
	written := bytesOf(t, api.Save{Hard: true, Term: 6, Vote: -1, From: 2, Entries: []api.Entry{{Term: 6}}})
	const first = 25 // bytes of the first record
	for _, left := range []int{first - 1, first, len(written) - 1, len(written)} {
		for _, keep := range []int{0, first - 1, first, 99} {
			g, s := filled(t, 3, 1, left)
			want := g.Disk(1).Bytes()
			synced := len(want)
			switch {
			case left >= len(written):
				want = append(want, written[:min(keep, len(written))]...)
			case left >= first:
				want = append(want, written[:min(keep, first)]...)
			}
			leadWith(t, g, s)
			at := slices.IndexFunc(g.Flight(), func(m api.Message) bool { return m.To == 1 && m.Kind == api.Append })
			flight := g.Flight()
			where := fmt.Sprintf("%d left, %d stay", left, keep)
			if why := g.Do(torn(at, keep, -1, 0)); why != api.OK || g.Node(1) != nil {
				t.Errorf("%s: it answers %d, and runs: %t", where, why, g.Node(1) != nil)
			}
			mustFly(t, where, g, slices.Delete(flight, at, at+1))
			mustKeep(t, where, g, 1, want, synced)
			if why := g.Do(restart(1)); why != api.OK {
				t.Errorf("%s: a restart answers %d", where, why)
			}
			mustState(t, where, g, 1, stateOf(t, want))
		}
	}
}

// leadWith lets the node 0, which has this state, lead by the vote of the node 2; nothing comes to the node 1.
func leadWith(t *testing.T, g *group.Group, s api.State) {
	t.Helper()
	g.Do(crash(0))
	hard.Write(g.Disk(0), api.Save{Hard: true, Term: s.Term, Vote: s.Vote, From: 1, Entries: s.Entries})
	g.Disk(0).Sync()
	g.Do(restart(0))
	for range 4 {
		g.Do(tick(0, 0))
	}
	for g.Node(0).Role() != raft.Leader {
		at := slices.IndexFunc(g.Flight(), func(m api.Message) bool { return m.To != 1 })
		if at < 0 || g.Do(deliver(at)) != api.OK {
			t.Fatal("the node 0 doesn't lead")
		}
	}
}
