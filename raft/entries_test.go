package raft_test

import (
	"fmt"
	"math"
	"slices"
	"strings"
	"testing"

	"kissinggate/api"
	"kissinggate/raft"
)

// named are entries of these terms whose data tells who sent them.
func named(name string, terms ...int) []api.Entry {
	l := of(terms...)
	for i := range l {
		l[i].Data = fmt.Sprint(name, i)
	}
	return l
}

// mustCommit: these entries are committed, from whichever index on they are asked for.
func mustCommit(t *testing.T, where string, x *raft.Node, want []api.Entry) {
	t.Helper()
	for _, from := range []int{math.MinInt, -1, 0, 1, 2, 3, len(want), len(want) + 1, len(want) + 2, math.MaxInt - 1, math.MaxInt} {
		rest := want[min(max(from, 1)-1, len(want)):]
		if got := x.Committed(from); !slices.Equal(got, rest) {
			t.Errorf("%s: committed from %d on: %+v, not %+v", where, from, got, rest)
		}
	}
	if x.Commit() != len(want) {
		t.Errorf("%s: %d are committed, not %d", where, x.Commit(), len(want))
	}
}

// P8.1: an Append, its answer, and what the log is then, by where it comes.
func TestAppend(t *testing.T) {
	for _, c := range []struct {
		name    string
		m       api.Message // of the term 5, to a log of the terms 1, 3, 3 of which nothing is committed
		yes     bool
		index   int
		put     int // the first index that changed
		entries []api.Entry
		commit  int
	}{
		{"behind all", api.Message{Index: 3, LogTerm: 3, Entries: named("new", 3, 5)}, true, 5, 4, append(of(1, 3, 3), named("new", 3, 5)...), 0},
		{"nothing, behind all", api.Message{Index: 3, LogTerm: 3}, true, 3, 0, of(1, 3, 3), 0},
		{"nothing, behind the index 0", api.Message{}, true, 0, 0, of(1, 3, 3), 0},
		{"nothing, amid", api.Message{Index: 1, LogTerm: 1, Commit: 9}, true, 1, 0, of(1, 3, 3), 1},
		{"what stands there", api.Message{Index: 1, LogTerm: 1, Entries: named("new", 3)}, true, 2, 0, of(1, 3, 3), 0},
		{"all that stands there", api.Message{Entries: named("new", 1, 3, 3), Commit: 9}, true, 3, 0, of(1, 3, 3), 3},
		{"in the place of one", api.Message{Index: 2, LogTerm: 3, Entries: named("new", 4), Commit: 3}, true, 3, 3, append(of(1, 3), named("new", 4)...), 3},
		{"in the place of two", api.Message{Index: 1, LogTerm: 1, Entries: named("new", 2), Commit: 1}, true, 2, 2, append(of(1), named("new", 2)...), 1},
		{"in the place of all", api.Message{Entries: named("new", 2, 2)}, true, 2, 1, named("new", 2, 2), 0},
		{"some stand there", api.Message{Index: 1, LogTerm: 1, Entries: named("new", 3, 5), Commit: 2}, true, 3, 3, append(of(1, 3), named("new", 3, 5)[1:]...), 2},
		{"committed: fewer than came", api.Message{Index: 3, LogTerm: 3, Entries: named("new", 3, 5), Commit: 4}, true, 5, 4, append(of(1, 3, 3), named("new", 3, 5)...), 4},
		{"committed: as many as came", api.Message{Index: 3, LogTerm: 3, Entries: named("new", 3, 5), Commit: 5}, true, 5, 4, append(of(1, 3, 3), named("new", 3, 5)...), 5},
		{"committed: more than came", api.Message{Index: 3, LogTerm: 3, Entries: named("new", 5), Commit: math.MaxInt}, true, 4, 4, append(of(1, 3, 3), named("new", 5)...), 4},
		{"committed: below 0", api.Message{Index: 3, LogTerm: 3, Commit: math.MinInt}, true, 3, 0, of(1, 3, 3), 0},
		{"below what is committed", api.Message{Index: -1, LogTerm: 1, Entries: named("new", 5), Commit: 3}, true, 0, 0, of(1, 3, 3), 0},
		{"far below what is committed", api.Message{Index: math.MinInt, Commit: 3}, true, 0, 0, of(1, 3, 3), 0},
		{"behind the last one", api.Message{Index: 4, LogTerm: 3, Entries: named("new", 5), Commit: 3}, false, 3, 0, of(1, 3, 3), 0},
		{"far behind the last one", api.Message{Index: math.MaxInt, LogTerm: 3, Entries: many(8, 5), Commit: math.MaxInt}, false, 3, 0, of(1, 3, 3), 0},
		{"another term there", api.Message{Index: 3, LogTerm: 4, Entries: named("new", 5), Commit: 3}, false, 2, 0, of(1, 3, 3), 0},
		{"another term amid", api.Message{Index: 2, LogTerm: 1, Commit: 2}, false, 1, 0, of(1, 3, 3), 0},
		{"another term at the first one", api.Message{Index: 1, LogTerm: 2, Commit: 1}, false, 0, 0, of(1, 3, 3), 0},
		{"another term at the index 0", api.Message{Index: 0, LogTerm: 1, Commit: 1}, false, 0, 0, of(1, 3, 3), 0},
		{"terms that fall", api.Message{Index: 3, LogTerm: 3, Entries: named("new", 5, 4), Commit: 3}, false, 2, 0, of(1, 3, 3), 0},
		{"a term below that ahead", api.Message{Index: 3, LogTerm: 3, Entries: named("new", 2), Commit: 3}, false, 2, 0, of(1, 3, 3), 0},
	} {
		for _, role := range []string{"a follower", "a led follower", "an asker", "a candidate"} {
			x := roles(t)[role]
			state := x.State()
			m := c.m
			m.Kind, m.From, m.Term = api.Append, 2, 5
			x.Step(m)
			where := role + ", " + c.name
			mustSend(t, where, x, api.Message{Kind: api.Told, To: 2, Term: 5, Yes: c.yes, Index: c.index})
			mustBe(t, where, x, view{raft.Follower, 5, 2, c.commit, len(c.entries)})
			state.Entries = c.entries
			mustHave(t, where, x, state)
			if c.put > 0 {
				mustSave(t, where, x, api.Save{From: c.put, Entries: c.entries[c.put-1:]})
			}
			mustSaveNothing(t, where, x)
			mustCommit(t, where, x, c.entries[:c.commit])
		}
	}
}

// P8.1: an Append of a greater term is followed first, by each role; a leader of the same term doesn't take one.
func TestAppendsTerm(t *testing.T) {
	for role, x := range roles(t) {
		was := x.State()
		x.Step(api.Message{Kind: api.Append, From: 1, Term: 6, Index: 3, LogTerm: 3, Entries: named("new", 6), Commit: 3})
		state := api.State{Term: 6, Vote: -1, Entries: append(of(1, 3, 3), named("new", 6)...)}
		mustBe(t, role, x, view{raft.Follower, 6, 1, 3, 4})
		mustHave(t, role, x, state)
		mustSend(t, role, x, api.Message{Kind: api.Told, To: 1, Term: 6, Yes: true, Index: 4})
		mustSave(t, role, x, api.Save{Hard: true, Term: 6, Vote: -1, From: 4, Entries: state.Entries[3:]})

		if role != "a leader" {
			continue
		}
		x = roles(t)[role]
		for _, m := range []api.Message{{Index: 3, LogTerm: 3, Entries: named("new", 4), Commit: 4}, {Index: 9}, {Index: -1}, {}} {
			m.Kind, m.From, m.Term = api.Append, 1, 5
			x.Step(m)
			mustSend(t, role, x)
			mustBe(t, role, x, view{raft.Leader, 5, 0, 0, 4})
			mustSaveNothing(t, role, x)
			mustHave(t, role, x, was)
		}
	}
}

// P8.1: below what is committed nothing is put, and a yes tells how far that is; what is committed never falls.
func TestAppendBelowWhatIsCommitted(t *testing.T) {
	x := node(t, 0, 3, with(5, 1, 3, 3, 4))
	x.Step(api.Message{Kind: api.Append, From: 1, Term: 5, Index: 3, LogTerm: 3, Commit: 9})
	mustSend(t, "three are committed", x, api.Message{Kind: api.Told, To: 1, Term: 5, Yes: true, Index: 3})
	has := of(1, 3, 3, 4)
	for _, index := range []int{math.MinInt, -1, 0, 1, 2} {
		for _, logTerm := range []int{0, 1, 3, 5} {
			x.Step(api.Message{Kind: api.Append, From: 1, Term: 5, Index: index, LogTerm: logTerm, Commit: 4, Entries: many(6, 5)})
			where := fmt.Sprintf("behind %d, %d", index, logTerm)
			mustSend(t, where, x, api.Message{Kind: api.Told, To: 1, Term: 5, Yes: true, Index: 3})
			mustCommit(t, where, x, has[:3])
		}
	}
	for _, commit := range []int{math.MinInt, -1, 0, 1, 3} {
		x.Step(api.Message{Kind: api.Append, From: 1, Term: 5, Index: 3, LogTerm: 3, Entries: named("new", 4), Commit: commit})
		mustSend(t, "a lesser commit", x, api.Message{Kind: api.Told, To: 1, Term: 5, Yes: true, Index: 4})
		mustCommit(t, "a lesser commit", x, has[:3])
	}
	x.Step(api.Message{Kind: api.Append, From: 1, Term: 5, Index: 3, LogTerm: 2, Commit: 4})
	mustSend(t, "another term where it is committed", x, api.Message{Kind: api.Told, To: 1, Term: 5, Index: 2})
	x.Step(api.Message{Kind: api.Append, From: 1, Term: 5, Index: 3, LogTerm: 3, Entries: named("new", 5)})
	mustHave(t, "behind what is committed", x, api.State{Term: 5, Vote: -1, Entries: append(of(1, 3, 3), named("new", 5)...)})
	mustCommit(t, "behind what is committed", x, has[:3])
	mustSave(t, "behind what is committed", x, api.Save{From: 4, Entries: named("new", 5)})
}

// P8.1: whoever sends an Append of its term leads; its ticks begin anew, whatever comes of it.
func TestAnAppendLeads(t *testing.T) {
	for _, m := range []api.Message{{}, {Index: 7}, {Index: -1}, {Index: 1, LogTerm: 9}} {
		x := node(t, 0, 3, with(5, 2))
		ticks(x, elect-1)
		m.Kind, m.Term = api.Append, 5
		for _, from := range []int{2, 1} {
			m.From = from
			x.Step(m)
			mustBe(t, "led", x, view{raft.Follower, 5, from, 0, 1})
		}
		quiet(x)
		ticks(x, elect-1)
		mustBe(t, "a tick ahead", x, view{raft.Follower, 5, 1, 0, 1})
		x.Tick(0)
		mustBe(t, "it isn't led any more", x, view{raft.Asker, 5, -1, 0, 1})
	}
}

// full is a state of the term 5 with as many entries as may be.
func full() api.State {
	return api.State{Term: 5, Vote: -1, Entries: many(api.MaxEntries, 2)}
}

// P8.1: a full log: what comes behind it isn't put; what stands there, or comes in the place of some, is.
func TestAppendToAFullLog(t *testing.T) {
	x := node(t, 0, 3, full())
	x.Step(api.Message{Kind: api.Append, From: 1, Term: 5, Index: api.MaxEntries, LogTerm: 2, Entries: many(1, 5)})
	mustSend(t, "one behind it", x, api.Message{Kind: api.Told, To: 1, Term: 5, Index: api.MaxEntries - 1})
	x.Step(api.Message{Kind: api.Append, From: 1, Term: 5, Index: api.MaxEntries - 2, LogTerm: 2, Entries: many(3, 2), Commit: 9})
	mustSend(t, "its last two, and one more", x, api.Message{Kind: api.Told, To: 1, Term: 5, Index: api.MaxEntries - 3})
	mustCommit(t, "what isn't put commits nothing", x, nil)
	mustSaveNothing(t, "one more", x)
	x.Step(api.Message{Kind: api.Append, From: 1, Term: 5, Index: api.MaxEntries - 2, LogTerm: 2, Entries: many(2, 2)})
	mustSend(t, "its last two", x, api.Message{Kind: api.Told, To: 1, Term: 5, Yes: true, Index: api.MaxEntries})
	mustHave(t, "as it was", x, full())
	x.Step(api.Message{Kind: api.Append, From: 1, Term: 5, Index: api.MaxEntries - 2, LogTerm: 2, Entries: many(2, 5)})
	mustSend(t, "its last two otherwise", x, api.Message{Kind: api.Told, To: 1, Term: 5, Yes: true, Index: api.MaxEntries})
	mustSave(t, "its last two otherwise", x, api.Save{From: api.MaxEntries - 1, Entries: many(2, 5)})
}

// P8.1: without room it doesn't lead, and one that leads doesn't take more.
func TestALeaderOfAFullLog(t *testing.T) {
	for _, n := range []int{1, 2, 3, 7} {
		x := candidate(t, n, full())
		term := 6
		for from := 1; from <= n/2; from++ {
			x.Step(api.Message{Kind: api.TellVote, From: from, Term: 6, Yes: true})
		}
		where := fmt.Sprintf("%d nodes, a full log", n)
		mustBe(t, where, x, view{raft.Follower, term, -1, 0, api.MaxEntries})
		mustSend(t, where, x)
		mustSaveNothing(t, where, x)
		state := full()
		state.Term, state.Vote = 6, 0
		mustHave(t, where, x, state)
		if index, fault := x.Propose("a"); index != 0 || fault != api.ErrLead {
			t.Errorf("%s: Propose: %d, %d", where, index, fault)
		}
	}

	state := full()
	state.Entries = state.Entries[:api.MaxEntries-2]
	for _, n := range []int{1, 3} {
		x := leader(t, n, state)
		if index, fault := x.Propose("the last one"); index != api.MaxEntries || fault != api.OK {
			t.Errorf("the last one: %d, %d", index, fault)
		}
		was := viewOf(quiet(x))
		for _, c := range []struct {
			bytes int
			fault api.Errno
		}{{0, api.ErrFull}, {api.MaxCommand, api.ErrFull}, {api.MaxCommand + 1, api.ErrLong}} {
			if index, fault := x.Propose(strings.Repeat("c", c.bytes)); index != 0 || fault != c.fault {
				t.Errorf("%d bytes, no room: %d, %d", c.bytes, index, fault)
			}
		}
		mustBe(t, "no room", x, was)
		mustSend(t, "no room", x)
		mustSaveNothing(t, "no room", x)
	}
}

// P8.1: what is proposed comes behind all, and is sent to all.
func TestPropose(t *testing.T) {
	x := leader(t, 3, with(5, 1, 3))
	has := append(of(1, 3), api.Entry{Term: 6})
	for i, data := range []string{"a", "", strings.Repeat("c", api.MaxCommand), "\xff\x00"} {
		index, fault := x.Propose(data)
		has = append(has, api.Entry{Term: 6, Data: data})
		where := fmt.Sprintf("the %d-th proposal", i)
		if index != len(has) || fault != api.OK {
			t.Errorf("%s: %d, %d", where, index, fault)
		}
		m := api.Message{Kind: api.Append, Term: 6, Index: 2, LogTerm: 3, Entries: has[2:]}
		one, two := m, m
		one.To, two.To = 1, 2
		mustSend(t, where, x, one, two)
		mustBe(t, where, x, view{raft.Leader, 6, 0, 0, len(has)})
		mustSave(t, where, x, api.Save{From: len(has), Entries: has[len(has)-1:]})
	}
	was := viewOf(x)
	if index, fault := x.Propose(strings.Repeat("c", api.MaxCommand+1)); index != 0 || fault != api.ErrLong {
		t.Errorf("too long: %d, %d", index, fault)
	}
	mustBe(t, "too long", x, was)
	mustSend(t, "too long", x)
	mustSaveNothing(t, "too long", x)

	for role, x := range roles(t) {
		if role == "a leader" {
			continue
		}
		was, state := viewOf(x), x.State()
		for _, data := range []string{"", "a", strings.Repeat("c", api.MaxCommand+1)} {
			if index, fault := x.Propose(data); index != 0 || fault != api.ErrLead {
				t.Errorf("%s: Propose: %d, %d", role, index, fault)
			}
		}
		mustBe(t, role, x, was)
		mustHave(t, role, x, state)
		mustSend(t, role, x)
		mustSaveNothing(t, role, x)
	}
}

// P8.1: at most MaxBatch entries are sent, from the one on that is needed next; when they were told of, those behind.
func TestBatches(t *testing.T) {
	x := leader(t, 5, with(5, 1, 3))
	all := append(of(1, 3), api.Entry{Term: 6})
	for i := range 2 * api.MaxBatch {
		data := fmt.Sprint("the ", i)
		all = append(all, api.Entry{Term: 6, Data: data})
		x.Propose(data)
		sent := all[2:min(len(all), 2+api.MaxBatch)]
		for _, m := range x.Out() {
			if m.Index != 2 || m.LogTerm != 3 || !slices.Equal(m.Entries, sent) {
				t.Errorf("proposal %d: %+v is sent", i, m)
			}
		}
	}
	for at := 2 + api.MaxBatch; at <= len(all); at += api.MaxBatch {
		x.Step(api.Message{Kind: api.Told, From: 3, Term: 6, Yes: true, Index: at})
		end := min(len(all), at+api.MaxBatch)
		mustSend(t, fmt.Sprintf("it has %d", at), x, api.Message{Kind: api.Append, To: 3, Term: 6, Index: at, LogTerm: 6, Entries: all[at:end]})
	}
	x.Step(api.Message{Kind: api.Told, From: 3, Term: 6, Yes: true, Index: len(all)})
	mustSend(t, "it has all", x)
	x.Tick(0)
	x.Tick(0)
	for _, m := range x.Out() {
		want := api.Message{Kind: api.Append, To: m.To, Term: 6, Index: 2, LogTerm: 3, Entries: all[2 : 2+api.MaxBatch]}
		if m.To == 3 {
			want.Index, want.LogTerm, want.Entries = len(all), 6, nil
		}
		if !alikeMessages(m, want) {
			t.Errorf("a beat: %+v, not %+v", m, want)
		}
	}
}

// needs is what the leader x thinks that a node needs: what it sends it at its beat.
func needs(x *raft.Node, to int) api.Message {
	x.Out()
	for range beat {
		x.Tick(0)
	}
	for _, m := range x.Out() {
		if m.To == to {
			return m
		}
	}
	return api.Message{}
}

// lead5 is a leader of five in the term 6, with entries of the terms 1, 2, 3, 3, 5, 5, 5, 6; the others need the last one.
func lead5(t *testing.T) *raft.Node {
	t.Helper()
	return leader(t, 5, with(5, 1, 2, 3, 3, 5, 5, 5))
}

// P8.1: a no: it needs the one behind Index, or the one that it needed, less 1, and gets that.
func TestANo(t *testing.T) {
	all := append(of(1, 2, 3, 3, 5, 5, 5), api.Entry{Term: 6})
	terms := []int{0, 1, 2, 3, 3, 5, 5, 5, 6}
	for _, c := range [][2]int{ // the Index of a no, and the one ahead of what is needed then
		{math.MinInt, 0}, {-7, 0}, {-1, 0}, {0, 0}, {1, 1}, {4, 4}, {5, 5}, {6, 6}, {7, 6}, {8, 6}, {9, 6}, {math.MaxInt - 1, 6}, {math.MaxInt, 6},
	} {
		x := lead5(t)
		x.Step(api.Message{Kind: api.Told, From: 2, Term: 6, Index: c[0]})
		where := fmt.Sprintf("a no with %d", c[0])
		mustSend(t, where, x, api.Message{Kind: api.Append, To: 2, Term: 6, Index: c[1], LogTerm: terms[c[1]], Entries: all[c[1]:]})
		mustBe(t, where, x, view{raft.Leader, 6, 0, 0, 8})
		mustSaveNothing(t, where, x)
		if m := needs(x, 2); m.Index != c[1] {
			t.Errorf("%s: it needs what is behind %d, not %d", where, m.Index, c[1])
		}
		if m := needs(x, 3); m.Index != 7 {
			t.Errorf("%s: another one needs what is behind %d", where, m.Index)
		}
	}
	x := lead5(t)
	for _, want := range []int{6, 5, 4, 3, 2, 1, 0, 0, 0} {
		x.Step(api.Message{Kind: api.Told, From: 2, Term: 6, Index: 99})
		mustSend(t, "one no behind the other", x, api.Message{Kind: api.Append, To: 2, Term: 6, Index: want, LogTerm: terms[want], Entries: all[want:]})
	}
}

// P8.1: whoever told that it has some needs what is behind it, whatever no comes, and whichever lesser yes.
func TestWhatItHasStays(t *testing.T) {
	for _, c := range []struct {
		name string
		m    api.Message
		send bool
	}{
		{"a no below it", api.Message{Index: 1}, true},
		{"a no far below it", api.Message{Index: math.MinInt}, true},
		{"a no with it", api.Message{Index: 4}, true},
		{"a no beyond it", api.Message{Index: math.MaxInt}, true},
		{"a lesser yes", api.Message{Yes: true, Index: 2}, true},
		{"a yes with the index 0", api.Message{Yes: true}, true},
		{"the same yes", api.Message{Yes: true, Index: 4}, true},
		{"a yes with what it can't have", api.Message{Yes: true, Index: 9}, false},
		{"a yes far beyond", api.Message{Yes: true, Index: math.MaxInt}, false},
		{"a yes below 0", api.Message{Yes: true, Index: -1}, false},
		{"a yes far below 0", api.Message{Yes: true, Index: math.MinInt}, false},
	} {
		x := lead5(t)
		x.Step(api.Message{Kind: api.Told, From: 2, Term: 6, Yes: true, Index: 4})
		next := api.Message{Kind: api.Append, To: 2, Term: 6, Index: 4, LogTerm: 3, Entries: append(of(1, 2, 3, 3, 5, 5, 5), api.Entry{Term: 6})[4:]}
		mustSend(t, "it has four", x, next)
		for range 2 {
			m := c.m
			m.Kind, m.From, m.Term = api.Told, 2, 6
			x.Step(m)
			if c.send {
				mustSend(t, c.name, x, next)
			}
			mustSend(t, c.name, x)
			mustBe(t, c.name, x, view{raft.Leader, 6, 0, 0, 8})
		}
		if m := needs(x, 2); m.Index != 4 {
			t.Errorf("%s: it needs what is behind %d", c.name, m.Index)
		}
		x.Step(api.Message{Kind: api.Told, From: 2, Term: 6, Yes: true, Index: 6})
		if m := needs(x, 2); m.Index != 6 {
			t.Errorf("%s, then more: it needs what is behind %d", c.name, m.Index)
		}
	}
}

// P8.1: a yes with what the leader doesn't have changes nothing, though nothing was told ahead.
func TestAYesWithWhatIsntThere(t *testing.T) {
	for _, index := range []int{math.MinInt, -1, 9, 10, math.MaxInt} {
		x := lead5(t)
		for from := 1; from < 5; from++ {
			x.Step(api.Message{Kind: api.Told, From: from, Term: 6, Yes: true, Index: index})
		}
		mustSend(t, fmt.Sprintf("a yes with %d", index), x)
		mustBe(t, fmt.Sprintf("a yes with %d", index), x, view{raft.Leader, 6, 0, 0, 8})
		if m := needs(x, 2); m.Index != 7 {
			t.Errorf("a yes with %d: it needs what is behind %d", index, m.Index)
		}
	}
}

// P8.1: what a majority has, of its own term, is committed, and all are told.
func TestWhatAMajorityHas(t *testing.T) {
	for n := 2; n <= api.MaxNodes; n++ {
		x := leader(t, n, with(5, 2, 3))
		x.Propose("a")
		quiet(x)
		has := append(of(2, 3), api.Entry{Term: 6}, api.Entry{Term: 6, Data: "a"})
		where := fmt.Sprintf("of %d", n)
		for said := 1; said < n/2; said++ {
			for range 2 { // twice is once
				x.Step(api.Message{Kind: api.Told, From: n - said, Term: 6, Yes: true, Index: 4})
				mustSend(t, where+", too few", x)
				mustCommit(t, where+", too few", x, nil)
			}
		}
		x.Step(api.Message{Kind: api.Told, From: n - n/2, Term: 6, Yes: true, Index: 4})
		mustCommit(t, where, x, has)
		mustSaveNothing(t, where, x)
		var want []api.Message
		for to := 1; to < n; to++ {
			m := api.Message{Kind: api.Append, To: to, Term: 6, Index: 4, LogTerm: 6, Commit: 4}
			if to < n-n/2 { // it told nothing yet
				m.Index, m.LogTerm, m.Entries = 2, 3, has[2:]
			}
			want = append(want, m)
		}
		mustSend(t, where, x, want...)
		x.Step(api.Message{Kind: api.Told, From: n - 1, Term: 6, Yes: true, Index: 4})
		mustSend(t, where+", once more", x)
	}
}

// P8.1: what a majority has, of elder terms, is committed with one of its own alone.
func TestEntriesOfElderTerms(t *testing.T) {
	x := lead5(t)
	for _, index := range []int{1, 4, 6, 7} {
		for from := 1; from < 5; from++ {
			x.Step(api.Message{Kind: api.Told, From: from, Term: 6, Yes: true, Index: index})
			mustCommit(t, fmt.Sprintf("all have %d", index), x, nil)
			for _, m := range x.Out() {
				if m.To != from || m.Index != index {
					t.Errorf("the %d has %d: %+v is sent", from, index, m)
				}
			}
		}
	}
	x.Step(api.Message{Kind: api.Told, From: 4, Term: 6, Yes: true, Index: 8})
	mustCommit(t, "two have all", x, nil)
	x.Step(api.Message{Kind: api.Told, From: 1, Term: 6, Yes: true, Index: 8})
	mustCommit(t, "three have all", x, append(of(1, 2, 3, 3, 5, 5, 5), api.Entry{Term: 6}))
}

// P8.1: the greatest index is committed that a majority has, each another one; what more one has isn't.
func TestTheIndexThatAMajorityHas(t *testing.T) {
	for n := 1; n <= api.MaxNodes; n++ {
		for shift := range n {
			x := leader(t, n, atFirst())
			for range 9 {
				x.Propose("a")
			}
			have := []int{x.Last()}
			for from := 1; from < n; from++ {
				index := 1 + 3*((from+shift)%n)%8
				have = append(have, index)
				x.Step(api.Message{Kind: api.Told, From: from, Term: 1, Yes: true, Index: index})
			}
			want := 0
			for index := range x.Last() + 1 {
				count := 0
				for _, has := range have {
					if has >= index {
						count++
					}
				}
				if 2*count > n {
					want = index
				}
			}
			if x.Commit() != want {
				t.Errorf("they have %v: %d are committed, not %d", have, x.Commit(), want)
			}
		}
	}
}

// P8.1: what was told to one that led counts no more when it leads again.
func TestLeadingBeginsAnew(t *testing.T) {
	x := leader(t, 3, with(5, 2))
	x.Step(api.Message{Kind: api.Told, From: 1, Term: 6, Yes: true, Index: 2})
	mustCommit(t, "it led", x, append(of(2), api.Entry{Term: 6}))
	x.Step(api.Message{Kind: api.Append, From: 2, Term: 7, Index: 2, LogTerm: 6, Entries: named("new", 7), Commit: 2})
	ticks(x, elect)
	quiet(x)
	x.Step(api.Message{Kind: api.TellPre, From: 2, Term: 8, Yes: true})
	x.Step(api.Message{Kind: api.TellVote, From: 2, Term: 8, Yes: true})
	mustBe(t, "it leads again", x, view{raft.Leader, 8, 0, 2, 4})
	if m := needs(x, 1); m.Index != 3 || m.LogTerm != 7 || len(m.Entries) != 1 || m.Commit != 2 {
		t.Errorf("it leads again: %+v is sent", m)
	}
	x.Step(api.Message{Kind: api.Told, From: 1, Term: 8, Index: 0})
	if m := needs(x, 1); m.Index != 0 || len(m.Entries) != 4 {
		t.Errorf("what it had is forgotten: %+v is sent", m)
	}
}

// P8.1: a Told comes to a leader alone.
func TestToldToOthers(t *testing.T) {
	for role, x := range roles(t) {
		if role == "a leader" {
			continue
		}
		was, state := viewOf(x), x.State()
		for _, index := range []int{math.MinInt, -1, 0, 1, 3, 4, math.MaxInt} {
			for _, yes := range []bool{true, false} {
				x.Step(api.Message{Kind: api.Told, From: 1, Term: 5, Yes: yes, Index: index})
				x.Step(api.Message{Kind: api.Told, From: 2, Term: 5, Yes: yes, Index: index})
			}
		}
		mustBe(t, role, x, was)
		mustHave(t, role, x, state)
		mustSend(t, role, x)
		mustSaveNothing(t, role, x)
	}
}

// P8.1: Save tells all that changed since it was asked last, once.
func TestSavesAreGathered(t *testing.T) {
	x := node(t, 0, 3, with(5, 1, 3, 3, 5))
	x.Step(api.Message{Kind: api.Append, From: 1, Term: 6, Index: 4, LogTerm: 5, Entries: named("a", 6, 6)})
	x.Step(api.Message{Kind: api.Append, From: 1, Term: 6, Index: 6, LogTerm: 6, Entries: named("b", 6)})
	mustSave(t, "one behind the other", x, api.Save{Hard: true, Term: 6, Vote: -1, From: 5, Entries: append(named("a", 6, 6), named("b", 6)...)})

	x.Step(api.Message{Kind: api.Append, From: 2, Term: 7, Index: 5, LogTerm: 6, Entries: named("c", 7, 7)})
	x.Step(api.Message{Kind: api.Append, From: 2, Term: 7, Index: 7, LogTerm: 7, Entries: named("d", 7)})
	x.Step(api.Message{Kind: api.AskVote, From: 1, Term: 7, Index: 9, LogTerm: 7})
	mustSave(t, "a later one doesn't hide an earlier one", x, api.Save{Hard: true, Term: 7, Vote: 1, From: 6, Entries: append(named("c", 7, 7), named("d", 7)...)})

	x.Step(api.Message{Kind: api.Append, From: 2, Term: 8, Index: 7, LogTerm: 7, Entries: named("e", 8)})
	x.Step(api.Message{Kind: api.Append, From: 2, Term: 8, Index: 1, LogTerm: 1, Entries: named("f", 8)})
	mustSave(t, "an earlier one in the place of a later one", x, api.Save{Hard: true, Term: 8, Vote: -1, From: 2, Entries: named("f", 8)})
	mustHave(t, "all of it", x, api.State{Term: 8, Vote: -1, Entries: append(of(1), named("f", 8)...)})

	for i := range 3 {
		x.Step(api.Message{Kind: api.Append, From: 2, Term: 8, Index: 2 + 8*i, LogTerm: 8, Entries: many(api.MaxBatch, 8)})
	}
	mustSave(t, "more than a message has", x, api.Save{From: 3, Entries: many(3*api.MaxBatch, 8)})

	x.Step(api.Message{Kind: api.AskVote, From: 1, Term: 9, Index: 99, LogTerm: 9})
	x.Step(api.Message{Kind: api.AskVote, From: 2, Term: 10, Index: 99, LogTerm: 9})
	mustSave(t, "the last term and vote", x, api.Save{Hard: true, Term: 10, Vote: 2})
}

// P8.1: an entry in whose place another one was put is told, though the same one stands there again.
func TestAnEntryThatIsThereAgain(t *testing.T) {
	state := with(5, 1, 3, 3)
	x := node(t, 0, 3, state)
	x.Step(api.Message{Kind: api.Append, From: 1, Term: 5, Index: 1, LogTerm: 1, Entries: named("other", 4)})
	x.Step(api.Message{Kind: api.Append, From: 1, Term: 5, Index: 1, LogTerm: 1, Entries: state.Entries[1:]})
	mustHave(t, "the same ones again", x, state)
	mustSave(t, "the same ones again", x, api.Save{From: 2, Entries: state.Entries[1:]})
	x.Step(api.Message{Kind: api.Append, From: 1, Term: 5, Index: 1, LogTerm: 1, Entries: state.Entries[1:]})
	mustSaveNothing(t, "what stands there", x)
}

// spoil writes over entries, and over the room behind them.
func spoil(l []api.Entry) {
	l = l[:cap(l)]
	for i := range l {
		l[i] = api.Entry{Term: -77, Data: "spoilt"}
	}
}

// P8.1: what is handed in isn't changed, its spare room neither, and isn't kept.
func TestWhatIsHandedInIsNotShared(t *testing.T) {
	room := many(9, 4)
	x := node(t, 0, 3, api.State{Term: 5, Vote: -1, Entries: room[:3]})
	sent := many(9, 5)
	m := api.Message{Kind: api.Append, From: 1, Term: 5, Index: 3, LogTerm: 4, Entries: sent[:2]}
	x.Step(m)
	x.Step(api.Message{Kind: api.Append, From: 1, Term: 5, Index: 5, LogTerm: 5, Entries: many(3, 5)})
	if !slices.Equal(room, many(9, 4)) || !slices.Equal(sent, many(9, 5)) {
		t.Error("what was handed in was changed")
	}
	spoil(room)
	spoil(sent)
	mustHave(t, "changed behind it", x, api.State{Term: 5, Vote: -1, Entries: append(many(3, 4), many(5, 5)...)})
	mustSave(t, "changed behind it", x, api.Save{From: 4, Entries: many(5, 5)})
}

// P8.1: what is handed out is new memory: whoever changes it changes nothing else, and it stays as it was.
func TestWhatIsHandedOutIsNotShared(t *testing.T) {
	x := leader(t, 3, api.State{Term: 5, Vote: -1, Entries: many(4, 2)})
	x.Propose("a")
	sent := x.Out()
	saved, _ := x.Save()
	x.Step(api.Message{Kind: api.Told, From: 1, Term: 6, Yes: true, Index: 6})
	all := append(many(4, 2), api.Entry{Term: 6}, api.Entry{Term: 6, Data: "a"})
	state, committed := x.State(), x.Committed(2)
	if len(sent) != 2 {
		t.Fatal(sent)
	}
	spoil(sent[0].Entries)
	if !slices.Equal(sent[1].Entries, all[4:]) {
		t.Error("two messages share memory")
	}
	spoil(saved.Entries)
	spoil(state.Entries)
	spoil(committed)
	mustHave(t, "what was handed out changed", x, api.State{Term: 6, Vote: 0, Entries: all})
	mustCommit(t, "what was handed out changed", x, all)

	state, committed, sent = x.State(), x.Committed(1), x.Out()
	copied := slices.Clone(sent)
	x.Propose("b")
	x.Step(api.Message{Kind: api.Append, From: 2, Term: 7, Index: 6, LogTerm: 6, Entries: many(3, 7)})
	if !slices.Equal(state.Entries, all) || !slices.Equal(committed, all) || !slices.EqualFunc(sent, copied, alikeMessages) {
		t.Error("what was handed out changes with the node")
	}
	twin := node(t, 1, 3, x.State())
	x.Step(api.Message{Kind: api.Append, From: 2, Term: 8, Index: 6, LogTerm: 6, Entries: many(1, 8)})
	mustHave(t, "a node of another one's state", twin, api.State{Term: 7, Vote: -1, Entries: append(all, many(3, 7)...)})
}
