package group_test

import (
	"fmt"
	"math"
	"slices"
	"strings"
	"testing"

	"kissinggate/api"
	"kissinggate/group"
	"kissinggate/raft"
)

func tick(node, draw int) api.Step { return api.Step{Kind: api.StepTick, Node: node, Draw: draw} }
func deliver(i int) api.Step       { return api.Step{Kind: api.StepDeliver, I: i} }
func drop(i int) api.Step          { return api.Step{Kind: api.StepDrop, I: i} }
func double(i int) api.Step        { return api.Step{Kind: api.StepDouble, I: i} }
func crash(node int) api.Step      { return api.Step{Kind: api.StepCrash, Node: node} }
func restart(node int) api.Step    { return api.Step{Kind: api.StepRestart, Node: node} }

func propose(node int, data string) api.Step {
	return api.Step{Kind: api.StepPropose, Node: node, Data: data}
}

func torn(i, keep, at int, by byte) api.Step {
	return api.Step{Kind: api.StepTorn, I: i, Keep: keep, At: at, By: by}
}

// both is a group, and the same by hand.
type both struct {
	t *testing.T
	g *group.Group
	h *hand
}

func newBoth(t *testing.T, n int) *both {
	t.Helper()
	b := &both{t, group.New(n), byHand(t, n)}
	mustBeAlike(t, "at first", b.g, b.h)
	return b
}

// any does a step, which answers as by hand, and changes what it changes there.
func (b *both) any(s api.Step) api.Errno {
	where := told(s)
	want := b.h.do(b.t, s)
	if got := b.g.Do(s); got != want {
		b.t.Fatalf("%s: it answers %d, not %d", where, got, want)
	}
	mustBeAlike(b.t, where, b.g, b.h)
	return want
}

// do does steps, each of which answers so.
func (b *both) do(want api.Errno, l ...api.Step) {
	b.t.Helper()
	for _, s := range l {
		if got := b.any(s); got != want {
			b.t.Fatalf("%s: it answers %d, not %d", told(s), got, want)
		}
	}
}

// settle delivers all, the first one first.
func (b *both) settle() {
	b.t.Helper()
	for range 10000 {
		if len(b.h.flight) == 0 {
			return
		}
		b.any(deliver(0))
	}
	b.t.Fatal("there is no end of messages")
}

// lead lets a node lead, with all messages delivered.
func (b *both) lead(node int) {
	b.t.Helper()
	b.do(api.OK, tick(node, 0), tick(node, 0), tick(node, 0), tick(node, 0))
	b.settle()
	mustLead(b.t, "when it was voted for", b.g, node, true)
}

// told is a step in few words.
func told(s api.Step) string {
	if len(s.Data) > 9 {
		s.Data = s.Data[:9] + ".."
	}
	return fmt.Sprintf("%+v", s)
}

// strange are numbers that none of n has.
func strange(n int) []int {
	return []int{math.MinInt, math.MinInt + 1, -n - 1, -n, -2, -1, n, n + 1, n + 8, 512 + n, math.MaxInt - 1, math.MaxInt}
}

var sizes = []int{1, 3, 5, 2, 4, 6, api.MaxNodes}

// P10.1: the chapter's example, and what there is behind it.
func TestTheExample(t *testing.T) {
	g := group.New(1)
	for i := range 4 {
		mustLead(t, fmt.Sprint(i, " ticks"), g, 0, false)
		if why := g.Do(api.Step{Kind: api.StepTick}); why != api.OK {
			t.Fatalf("a tick answers %d", why)
		}
	}
	mustLead(t, "four ticks", g, 0, true)
	x := g.Node(0)
	if got := viewOf(x); got != (view{raft.Leader, 1, 0, 1, 1}) {
		t.Errorf("it is %+v", got)
	}
	if l := x.Committed(1); !slices.Equal(l, []api.Entry{{Term: 1}}) {
		t.Errorf("committed are %v", l)
	}
}

// P10.1: there are groups of 1 to MaxNodes nodes.
func TestNew(t *testing.T) {
	for _, n := range append(strange(api.MaxNodes+1), 0) {
		if g := group.New(n); g != nil {
			t.Errorf("there is a group of %d", n)
		}
	}
	for n := 1; n <= api.MaxNodes; n++ {
		g := group.New(n)
		where := fmt.Sprint("of ", n)
		if g == nil || g.Len() != n {
			t.Fatalf("%s: there are %d nodes", where, g.Len())
		}
		for i := range n {
			x := g.Node(i)
			if x == nil || viewOf(x) != (view{leader: -1}) || !alikeStates(x.State(), api.State{Vote: -1}) {
				t.Errorf("%s: at first the node %d is %+v, %+v", where, i, viewOf(x), x.State())
			}
			mustKeep(t, where, g, i, nil, 0)
		}
		mustFly(t, where, g, nil)
		mustLead(t, where, g, 0, false)
	}
}

// P10.1: each group has nodes, disks and messages of its own.
func TestGroupsShareNothing(t *testing.T) {
	b, other := newBoth(t, 3), newBoth(t, 3)
	b.lead(1)
	b.do(api.OK, propose(1, "a"), crash(0))
	mustBeAlike(t, "another group", other.g, other.h)
}

// P10.1: there is no other node, and no other disk.
func TestNodeAndDisk(t *testing.T) {
	for _, n := range sizes {
		g := group.New(n)
		for _, i := range strange(n) {
			if g.Node(i) != nil || g.Disk(i) != nil {
				t.Errorf("of %d: there is a node or a disk %d", n, i)
			}
		}
		for i := range n {
			if g.Do(crash(i)) != api.OK || g.Node(i) != nil || g.Disk(i) == nil {
				t.Errorf("of %d: the node %d, which is down, is there, or its disk isn't", n, i)
			}
		}
	}
}

// P10.1: what is handed out is the group's own.
func TestTheNodeAndTheDiskAreItsOwn(t *testing.T) {
	g := group.New(3)
	if g.Node(1) != g.Node(1) || g.Disk(1) != g.Disk(1) || g.Node(1) == g.Node(2) || g.Disk(1) == g.Disk(2) {
		t.Error("a node or a disk isn't its own")
	}
	for range 3 {
		g.Node(1).Tick(0)
	}
	if g.Do(tick(1, 0)); g.Node(1).Role() != raft.Asker {
		t.Error("ticks of the node that is handed out don't count")
	}
	d := g.Disk(2)
	g.Do(crash(2))
	g.Do(restart(2))
	if g.Disk(2) != d {
		t.Error("behind a restart it is another disk")
	}
}

// P10.1: a step of no such kind changes nothing, wherever it is.
func TestNoSuchKind(t *testing.T) {
	b := newBoth(t, 3)
	b.lead(0)
	b.do(api.OK, crash(2), propose(0, "a"))
	for _, kind := range []int{math.MinInt, -8, -1, 0, api.StepTorn + 1, 10, 256 + 1, math.MaxInt} {
		for _, at := range []int{0, 1, 2, -1, 3, math.MaxInt} {
			b.do(api.ErrArg, api.Step{Kind: kind, Node: at, I: at, Data: "b"})
		}
	}
}

// P10.1: a step of a node that isn't there changes nothing.
func TestNoSuchNode(t *testing.T) {
	for _, n := range sizes {
		b := newBoth(t, n)
		b.lead(n - 1)
		for _, i := range strange(n) {
			b.do(api.ErrNone, tick(i, 0), propose(i, "a"), propose(i, strings.Repeat("a", 600)), crash(i), restart(i))
		}
		b.do(api.OK, crash(0))
		for _, i := range strange(n) {
			b.do(api.ErrNone, tick(i, 0), propose(i, "a"), crash(i), restart(i))
		}
	}
}

// P10.1: a step of a message that isn't there changes nothing, whatever its other fields are.
func TestNoSuchMessage(t *testing.T) {
	b := newBoth(t, 3)
	for range 5 {
		n := len(b.h.flight)
		for _, i := range append(strange(max(n, 1)), n) {
			b.do(api.ErrNone, deliver(i), drop(i), double(i), torn(i, 9, 1, 1), api.Step{Kind: api.StepDeliver, Node: 1, I: i})
		}
		b.do(api.OK, tick(0, 0))
	}
	b.do(api.OK, api.Step{Kind: api.StepDeliver, Node: 77, I: 1, Draw: -9, Data: "of no meaning"})
	b.do(api.OK, api.Step{Kind: api.StepDrop, Node: -1}, api.Step{Kind: api.StepDouble, Node: 3})
}

// P10.1: each kind of step of a node that is down, and of one that runs.
func TestDownAndUp(t *testing.T) {
	for _, n := range sizes {
		b := newBoth(t, n)
		for i := range n {
			b.do(api.ErrState, restart(i))
			b.do(api.OK, tick(i, 9), crash(i))
			b.do(api.ErrDown, tick(i, 0), propose(i, "a"), propose(i, strings.Repeat("a", 600)), crash(i))
			b.do(api.OK, restart(i))
			b.do(api.ErrState, restart(i))
			b.do(api.ErrLead, propose(i, "a"))
			b.do(api.OK, tick(i, 0), crash(i))
		}
		mustLead(t, "all are down", b.g, 0, false)
	}
}

// P10.1: a crash of one that is down already doesn't touch its disk.
func TestACrashOfOneThatIsDown(t *testing.T) {
	g := group.New(3)
	g.Do(crash(1))
	g.Disk(1).Write([]byte("a tail"))
	for _, s := range []api.Step{{Kind: api.StepCrash, Node: 1}, {Kind: api.StepCrash, Node: 1, Keep: 3, At: 1, By: 255}} {
		if why := g.Do(s); why != api.ErrDown {
			t.Errorf("%s: it answers %d", told(s), why)
		}
		mustKeep(t, told(s), g, 1, []byte("a tail"), 0)
	}
}

// P10.1: a crash hands all that it is told on to the disk.
func TestACrashLosesATail(t *testing.T) {
	for _, c := range []struct {
		s    api.Step
		tail string
	}{
		{api.Step{}, ""},
		{api.Step{Keep: -1}, ""},
		{api.Step{Keep: math.MinInt, At: 0, By: 1}, ""},
		{api.Step{Keep: 1, At: 0, By: 1}, "`"},
		{api.Step{Keep: 3, At: 1, By: 1}, "acc"},
		{api.Step{Keep: 3, At: 2, By: 0}, "abc"},
		{api.Step{Keep: 3, At: 3, By: 1}, "abc"},
		{api.Step{Keep: 4, At: -1, By: 1}, "abcd"},
		{api.Step{Keep: math.MaxInt, At: 3, By: 7}, "abcc"},
		{api.Step{Keep: math.MaxInt, At: math.MaxInt, By: 1}, "abcd"},
	} {
		g := group.New(3)
		d := g.Disk(2)
		d.Write([]byte("synced"))
		d.Sync()
		d.Write([]byte("abcd"))
		c.s.Kind, c.s.Node = api.StepCrash, 2
		if why := g.Do(c.s); why != api.OK || g.Node(2) != nil {
			t.Errorf("%s: it answers %d, or runs yet", told(c.s), why)
		}
		mustKeep(t, told(c.s), g, 2, []byte("synced"+c.tail), 6)
	}
}

// P10.1: a tick hands its draw on, so that the node asks when it must; the others aren't touched.
func TestATicksDraw(t *testing.T) {
	for draw, want := range map[int]int{0: 4, 1: 5, 2: 6, 3: 7, 4: 4, 7: 7, -1: 4, math.MinInt: 4, math.MaxInt: 7} {
		b := newBoth(t, 3)
		n := 0
		for b.g.Node(1).Role() == raft.Follower {
			b.do(api.OK, tick(1, draw))
			n++
		}
		if n != want {
			t.Errorf("with the draw %d it asks behind %d ticks, not %d", draw, n, want)
		}
		ask := api.Message{Kind: api.AskPre, From: 1, Term: 1}
		to2 := ask
		to2.To = 2
		mustFly(t, "it asked", b.g, []api.Message{ask, to2})
	}
}

// P10.1: a leader's ticks: behind two it sends, behind four without an answer it leads no more.
func TestALeadersTicks(t *testing.T) {
	b := newBoth(t, 3)
	b.lead(2)
	for _, sent := range []int{0, 2, 2, 4} {
		mustLead(t, "it isn't over yet", b.g, 2, true)
		b.do(api.OK, tick(2, 0))
		if n := len(b.g.Flight()); n != sent {
			t.Errorf("%d are sent, not %d", n, sent)
		}
	}
	mustLead(t, "the first four ticks: it heard when it began", b.g, 2, true)
	for len(b.h.flight) > 0 {
		b.do(api.OK, drop(0))
	}
	b.do(api.OK, tick(2, 0), tick(2, 0), tick(2, 0))
	mustLead(t, "seven ticks", b.g, 2, true)
	b.do(api.OK, tick(2, 0))
	mustLead(t, "eight ticks", b.g, 0, false)
}

// P10.1: how three nodes elect, and have an entry committed: all that is under way on the way.
func TestThreeElect(t *testing.T) {
	b := newBoth(t, 3)
	fly := func(where string, want ...api.Message) {
		t.Helper()
		mustFly(t, where, b.g, want)
	}
	led := []api.Entry{{Term: 1}}
	append1 := api.Message{Kind: api.Append, To: 1, Term: 1, Entries: led}
	append2 := api.Message{Kind: api.Append, To: 2, Term: 1, Entries: led}
	had := api.Message{Kind: api.Told, From: 1, Term: 1, Index: 1, Yes: true}
	know := api.Message{Kind: api.Append, To: 1, Term: 1, Index: 1, LogTerm: 1, Commit: 1}
	know2 := append2
	know2.Commit = 1

	b.do(api.OK, tick(0, 0), tick(0, 0), tick(0, 0))
	fly("three ticks")
	b.do(api.OK, tick(0, 0))
	fly("it asks", api.Message{Kind: api.AskPre, To: 1, Term: 1}, api.Message{Kind: api.AskPre, To: 2, Term: 1})
	b.do(api.OK, deliver(0))
	fly("one is asked", api.Message{Kind: api.AskPre, To: 2, Term: 1}, api.Message{Kind: api.TellPre, From: 1, Term: 1, Yes: true})
	mustKeep(t, "nothing changed", b.g, 0, nil, 0)
	b.do(api.OK, drop(0), deliver(0))
	fly("it stands", api.Message{Kind: api.AskVote, To: 1, Term: 1}, api.Message{Kind: api.AskVote, To: 2, Term: 1})
	b.do(api.OK, deliver(0), drop(0))
	fly("one votes", api.Message{Kind: api.TellVote, From: 1, Term: 1, Yes: true})
	mustLead(t, "one votes", b.g, 0, false)
	b.do(api.OK, deliver(0))
	fly("it leads", append1, append2)
	mustLead(t, "it leads", b.g, 0, true)
	b.do(api.OK, double(0), deliver(0))
	fly("one has it", append2, append1, had)
	b.do(api.OK, deliver(2))
	fly("it is committed", append2, append1, know, know2)
	if n := b.g.Node(0).Commit(); n != 1 {
		t.Errorf("%d is committed", n)
	}
}

// P10.1: groups of each size elect, have what is proposed committed by all, and keep it.
func TestGroupsOfEachSize(t *testing.T) {
	for _, n := range sizes {
		b := newBoth(t, n)
		b.lead(n / 2)
		want := []api.Entry{{Term: 1}}
		for _, data := range []string{"a", "", "\x00\xff", strings.Repeat("b", api.MaxCommand)} {
			b.do(api.OK, propose(n/2, data))
			want = append(want, api.Entry{Term: 1, Data: data})
			b.settle()
		}
		b.do(api.OK, tick(n/2, 0), tick(n/2, 0))
		b.settle()
		for i := range n {
			if l := b.g.Node(i).Committed(1); !slices.Equal(l, want) {
				t.Errorf("of %d: the node %d has %d committed", n, i, len(l))
			}
			b.do(api.OK, crash(i), restart(i))
			if l := b.g.Node(i).State().Entries; !slices.Equal(l, want) {
				t.Errorf("of %d: behind a restart the node %d has %d entries", n, i, len(l))
			}
		}
	}
}

// P10.1: a proposal to one that doesn't lead, or can't take it, tells its error, and changes nothing.
func TestAProposalsError(t *testing.T) {
	long := strings.Repeat("c", api.MaxCommand+1)
	b := newBoth(t, 3)
	for i := range 3 {
		b.do(api.ErrLead, propose(i, ""), propose(i, long))
	}
	b.lead(1)
	for _, i := range []int{0, 2} {
		b.do(api.ErrLead, propose(i, "a"), propose(i, long))
	}
	b.do(api.ErrLong, propose(1, long))
	mustFly(t, "nothing is proposed yet", b.g, nil)
	b.do(api.OK, propose(1, long[1:]))
	if n := len(b.g.Flight()); n != 2 {
		t.Errorf("%d are sent", n)
	}
}

// P10.1: a log that is full tells so.
func TestAFullLog(t *testing.T) {
	g := group.New(1)
	for range 4 {
		g.Do(tick(0, 0))
	}
	for i := 1; i < api.MaxEntries; i++ {
		if why := g.Do(propose(0, "a")); why != api.OK {
			t.Fatalf("the proposal %d answers %d", i, why)
		}
	}
	b := g.Disk(0).Bytes()
	if why := g.Do(propose(0, "a")); why != api.ErrFull || g.Node(0).Commit() != api.MaxEntries {
		t.Errorf("a proposal answers %d, and %d are committed", why, g.Node(0).Commit())
	}
	mustKeep(t, "a full log", g, 0, b, len(b))
}

// P10.1: a message to a node that is down is taken out and lost; that node's disk isn't touched, also by a torn one.
func TestAMessageToOneThatIsDown(t *testing.T) {
	b := newBoth(t, 3)
	b.lead(0)
	b.do(api.OK, propose(0, "a"), propose(0, "b"), crash(1))
	want := b.g.Flight() // to 1, to 2, to 1, to 2
	b.do(api.ErrDown, deliver(2))
	mustFly(t, "delivered", b.g, slices.Delete(want, 2, 3))
	kept := b.g.Disk(1).Bytes()
	b.g.Disk(1).Write([]byte("a tail"))
	if why := b.g.Do(torn(0, 1, 0, 1)); why != api.ErrDown {
		t.Errorf("torn: it answers %d", why)
	}
	mustFly(t, "torn", b.g, want[1:3])
	mustKeep(t, "torn", b.g, 1, append(kept, "a tail"...), len(kept))
}

// P10.1: messages are dropped and doubled at each place.
func TestDropAndDouble(t *testing.T) {
	for i := range 4 {
		b := newBoth(t, 5)
		b.do(api.OK, tick(2, 0), tick(2, 0), tick(2, 0), tick(2, 0))
		want := b.g.Flight()
		b.do(api.OK, double(i))
		want = append(want, want[i])
		mustFly(t, "doubled", b.g, want)
		b.do(api.OK, drop(i))
		mustFly(t, "dropped", b.g, slices.Delete(want, i, i+1))
	}
}

// P10.1: each message to one that is down may be dropped and doubled, too.
func TestDropAndDoubleOfOneThatIsDown(t *testing.T) {
	b := newBoth(t, 3)
	b.do(api.OK, tick(0, 0), tick(0, 0), tick(0, 0), tick(0, 0), crash(1), crash(0), double(0), drop(0), drop(1))
	mustFly(t, "one is left", b.g, []api.Message{{Kind: api.AskPre, To: 2, Term: 1}})
}

// P10.1: what a full net can't take is lost, the first ones aren't.
func TestAFullNet(t *testing.T) {
	b := newBoth(t, 3)
	b.lead(1)
	b.do(api.OK, tick(1, 0), tick(1, 0), drop(1))
	for len(b.h.flight) < api.MaxFlight-1 {
		b.do(api.OK, double(0))
	}
	b.do(api.OK, propose(1, "a"))
	last := b.g.Flight()[api.MaxFlight-1]
	if last.To != 0 || len(last.Entries) != 1 {
		t.Errorf("the last one is %+v", last)
	}
	b.do(api.ErrFull, double(0), double(api.MaxFlight-1))
	b.do(api.ErrNone, double(-1), double(api.MaxFlight))
	b.do(api.OK, propose(1, "b"), tick(1, 0), tick(1, 0))
	if b.g.Node(1).Last() != 3 {
		t.Error("with a full net nothing is proposed")
	}
	b.do(api.OK, deliver(3), drop(3), double(5))
	if n := len(b.g.Flight()); n != api.MaxFlight {
		t.Errorf("%d are under way", n)
	}
}

// P10.1: how many are delivered, the first one first.
func TestSettle(t *testing.T) {
	ready := func() *both {
		b := newBoth(t, 5)
		b.do(api.OK, tick(4, 0), tick(4, 0), tick(4, 0), tick(4, 0))
		return b
	}
	mustSettle := func(b *both, most, want int) {
		t.Helper()
		if n := b.g.Settle(most); n != want {
			t.Fatalf("Settle(%d) answers %d, not %d", most, n, want)
		}
		for range want {
			b.h.do(t, deliver(0))
		}
		mustBeAlike(t, fmt.Sprintf("Settle(%d)", most), b.g, b.h)
	}
	all := ready()
	n := all.g.Settle(math.MaxInt)
	mustLead(t, "all are delivered", all.g, 4, true)
	mustFly(t, "all are delivered", all.g, nil)
	for _, most := range []int{0, 1, 2, 3, 4, 5, n - 1, n, n + 1, n + 2, 1000, math.MaxInt} {
		b := ready()
		mustSettle(b, 0, 0)
		mustSettle(b, -1, 0)
		mustSettle(b, math.MinInt, 0)
		mustSettle(b, most, min(most, n))
		mustSettle(b, 1000, n-min(most, n))
		mustSettle(b, 1000, 0)
	}
	mustSettle(newBoth(t, 1), 5, 0)
}

// P10.1: messages to a node that is down don't hold the others up.
func TestSettleWhileOneIsDown(t *testing.T) {
	b := newBoth(t, 3)
	b.do(api.OK, crash(1), tick(0, 0), tick(0, 0), tick(0, 0), tick(0, 0))
	b.g.Settle(1000)
	mustFly(t, "all are delivered", b.g, nil)
	mustLead(t, "two of three", b.g, 0, true)
	b = newBoth(t, 3)
	b.do(api.OK, tick(0, 0), tick(0, 0), tick(0, 0), tick(0, 0), crash(0), crash(1), crash(2))
	b.g.Settle(1000)
	mustFly(t, "all are down", b.g, nil)
}

// P10.1: of two that lead, the one of the greater term is told, whichever comes first.
func TestAnElderOneLeadsStill(t *testing.T) {
	for _, c := range [][3]int{{0, 1, 2}, {2, 1, 0}, {1, 0, 2}, {1, 2, 0}, {0, 2, 1}, {2, 0, 1}} {
		elder, younger, third := c[0], c[1], c[2]
		b := newBoth(t, 3)
		b.lead(elder)
		b.do(api.OK, tick(third, 3), tick(third, 3), tick(third, 3), tick(third, 3))
		b.do(api.OK, tick(younger, 0), tick(younger, 0), tick(younger, 0), tick(younger, 0))
		for b.g.Node(younger).Role() != raft.Leader {
			at := slices.IndexFunc(b.h.flight, func(m api.Message) bool { return m.To != elder && m.From != elder })
			b.do(api.OK, deliver(at))
		}
		if b.g.Node(elder).Role() != raft.Leader {
			t.Fatal("the elder one leads no more")
		}
		mustLead(t, "both lead", b.g, younger, true)
		b.do(api.OK, crash(younger))
		mustLead(t, "the elder one leads", b.g, elder, true)
		b.do(api.OK, crash(elder))
		mustLead(t, "none leads", b.g, 0, false)
	}
}

// P10.1: all steps are done, also those behind one that can't be.
func TestRun(t *testing.T) {
	var l []api.Step
	for i := range 4 {
		l = append(l, tick(1, 0), tick(i, 0), deliver(-1), api.Step{Kind: 99}, restart(0))
	}
	l = append(l, crash(2), propose(0, "a"), deliver(0), deliver(1), deliver(1), deliver(1), propose(1, "b"), crash(2), restart(2))
	b := newBoth(t, 3)
	b.g.Run(l)
	for _, s := range l {
		b.h.do(t, s)
	}
	mustBeAlike(t, "all", b.g, b.h)
	b.g.Run(nil)
	b.g.Run([]api.Step{})
	mustBeAlike(t, "none", b.g, b.h)
}

// P10.1: a nil group, and one that New didn't make, has nothing, and nothing can be done.
func TestNoGroup(t *testing.T) {
	for name, g := range map[string]*group.Group{"nil": nil, "zero": {}} {
		for kind := -1; kind <= 9; kind++ {
			for _, at := range []int{-1, 0, 1} {
				if why := g.Do(api.Step{Kind: kind, Node: at, I: at}); why != api.ErrArg {
					t.Errorf("%s: a step of the kind %d answers %d", name, kind, why)
				}
			}
		}
		g.Run([]api.Step{tick(0, 0), deliver(0), {}})
		if g.Len() != 0 || g.Node(0) != nil || g.Node(-1) != nil || g.Disk(0) != nil || g.Disk(1) != nil {
			t.Errorf("%s: there is a node, or a disk", name)
		}
		if g.Settle(0) != 0 || g.Settle(9) != 0 || len(g.Flight()) != 0 {
			t.Errorf("%s: something is under way", name)
		}
		mustLead(t, name, g, 0, false)
	}
}

// P10.1: what Flight handed out may be changed.
func TestFlightSharesNothing(t *testing.T) {
	b := newBoth(t, 3)
	b.lead(0)
	b.do(api.OK, propose(0, "a"), propose(0, "b"), double(1))
	spoil := func() {
		l := b.g.Flight()
		for i := range l {
			for j := range l[i].Entries {
				l[i].Entries[j] = api.Entry{Term: 1, Data: "spoilt"}
			}
			_ = append(l[i].Entries, api.Entry{Data: "behind"})
			l[i] = api.Message{Kind: api.Append, To: 2}
		}
		_ = append(l, api.Message{}, api.Message{})
		mustBeAlike(t, "what was handed out is changed", b.g, b.h)
	}
	for len(b.h.flight) > 0 {
		spoil()
		b.do(api.OK, deliver(0))
	}
	l := b.g.Node(2).Committed(1)
	if !slices.Equal(l, []api.Entry{{Term: 1}, {Term: 1, Data: "a"}, {Term: 1, Data: "b"}}) {
		t.Errorf("committed are %v", l)
	}

	b.do(api.OK, propose(0, "c"), double(0))
	l0 := b.g.Flight()
	l0[0].Entries[0].Data = "spoilt"
	if l0[2].Entries[0].Data != "c" {
		t.Error("two of one answer share memory")
	}
}

// P10.1: what one Run was handed isn't changed.
func TestRunChangesNothingHandedIn(t *testing.T) {
	l := []api.Step{tick(0, 0), propose(0, "a"), crash(0), {Kind: 9}, restart(0)}
	was := slices.Clone(l)
	group.New(3).Run(l)
	if !slices.Equal(l, was) {
		t.Errorf("it is %v", l)
	}
}
