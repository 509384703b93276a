package raft_test

import (
	"fmt"
	"math"
	"slices"
	"strings"
	"testing"

	"kissinggate/api"
	"kissinggate/raft"
)

// The nodes of most tests wait so many ticks, and send each so many.
const (
	elect = 4
	beat  = 2
)

// of are entries of these terms, each with data of its own.
func of(terms ...int) []api.Entry {
	var l []api.Entry
	for i, term := range terms {
		l = append(l, api.Entry{Term: term, Data: fmt.Sprint("own ", i, " of ", term)})
	}
	return l
}

// many are n entries of a term.
func many(n, term int) []api.Entry {
	return slices.Repeat([]api.Entry{{Term: term, Data: "many"}}, n)
}

// with is the state of a term in which it voted for nobody, with entries of these terms.
func with(term int, terms ...int) api.State {
	return api.State{Term: term, Vote: -1, Entries: of(terms...)}
}

// atFirst is the state of a node that has kept nothing.
func atFirst() api.State {
	return with(0)
}

// view is what a node tells of itself in numbers.
type view struct {
	role, term, leader, commit, last int
}

func viewOf(x *raft.Node) view {
	return view{x.Role(), x.Term(), x.Leader(), x.Commit(), x.Last()}
}

func mustBe(t *testing.T, where string, x *raft.Node, want view) {
	t.Helper()
	if got := viewOf(x); got != want {
		t.Errorf("%s: it is %+v, not %+v", where, got, want)
	}
}

func alikeMessages(a, b api.Message) bool {
	return a.Kind == b.Kind && a.From == b.From && a.To == b.To && a.Term == b.Term && a.Index == b.Index && a.LogTerm == b.LogTerm && a.Commit == b.Commit && a.Yes == b.Yes && slices.Equal(a.Entries, b.Entries)
}

// mustSend: Out answers these messages, and then none.
func mustSend(t *testing.T, where string, x *raft.Node, want ...api.Message) {
	t.Helper()
	if got := x.Out(); !slices.EqualFunc(got, want, alikeMessages) {
		t.Errorf("%s: it sends\n%+v, not\n%+v", where, got, want)
	}
	if more := x.Out(); len(more) != 0 {
		t.Errorf("%s: it sends once more %+v", where, more)
	}
}

func alikeSaves(a, b api.Save) bool {
	return a.Hard == b.Hard && a.Term == b.Term && a.Vote == b.Vote && a.From == b.From && slices.Equal(a.Entries, b.Entries)
}

// mustSave: Save answers this, and then that nothing changed.
func mustSave(t *testing.T, where string, x *raft.Node, want api.Save) {
	t.Helper()
	if got, changed := x.Save(); !changed || !alikeSaves(got, want) {
		t.Errorf("%s: it saves %+v, %v, not %+v", where, got, changed, want)
	}
	mustSaveNothing(t, where, x)
}

func mustSaveNothing(t *testing.T, where string, x *raft.Node) {
	t.Helper()
	if got, changed := x.Save(); changed || !alikeSaves(got, api.Save{}) {
		t.Errorf("%s: it saves %+v, %v, though nothing changed", where, got, changed)
	}
}

func alikeStates(a, b api.State) bool {
	return a.Term == b.Term && a.Vote == b.Vote && slices.Equal(a.Entries, b.Entries)
}

func mustHave(t *testing.T, where string, x *raft.Node, want api.State) {
	t.Helper()
	if got := x.State(); !alikeStates(got, want) {
		t.Errorf("%s: its state is %+v, not %+v", where, got, want)
	}
}

// node is one of n, with this state.
func node(t *testing.T, id, n int, s api.State) *raft.Node {
	t.Helper()
	x, fault := raft.New(id, n, elect, beat, s)
	if x == nil || fault != api.OK {
		t.Fatalf("New(%d, %d, %d, %d): %d", id, n, elect, beat, fault)
	}
	return x
}

func ticks(x *raft.Node, n int) {
	for range n {
		x.Tick(0)
	}
}

// quiet takes what it sends and saves away.
func quiet(x *raft.Node) *raft.Node {
	x.Out()
	x.Save()
	return x
}

// asker is the node 0 of n, which asks.
func asker(t *testing.T, n int, s api.State) *raft.Node {
	t.Helper()
	x := node(t, 0, n, s)
	ticks(x, elect)
	return quiet(x)
}

// candidate is the node 0 of n, to whom as many as must said that they would vote.
func candidate(t *testing.T, n int, s api.State) *raft.Node {
	t.Helper()
	x := asker(t, n, s)
	for from := 1; from <= n/2; from++ {
		x.Step(api.Message{Kind: api.TellPre, From: from, Term: s.Term + 1, Yes: true})
	}
	return quiet(x)
}

// leader is the node 0 of n, for whom as many as must voted.
func leader(t *testing.T, n int, s api.State) *raft.Node {
	t.Helper()
	x := candidate(t, n, s)
	for from := 1; from <= n/2; from++ {
		x.Step(api.Message{Kind: api.TellVote, From: from, Term: s.Term + 1, Yes: true})
	}
	if x.Role() != raft.Leader {
		t.Fatalf("it doesn't lead: %+v", viewOf(x))
	}
	return quiet(x)
}

// led is the node 0 of n, which the node 1 leads in its term.
func led(t *testing.T, n int, s api.State) *raft.Node {
	t.Helper()
	x := node(t, 0, n, s)
	x.Step(api.Message{Kind: api.Append, From: 1, Term: s.Term})
	return quiet(x)
}

// roles are nodes 0 of three, one of each role, all of the term 5 with the same log, and a led one.
func roles(t *testing.T) map[string]*raft.Node {
	t.Helper()
	terms := []int{1, 3, 3}
	all := map[string]*raft.Node{
		"a follower":     node(t, 0, 3, with(5, terms...)),
		"a led follower": led(t, 3, with(5, terms...)),
		"an asker":       asker(t, 3, with(5, terms...)),
		"a candidate":    candidate(t, 3, with(4, terms...)),
		"a leader":       leader(t, 3, with(4, terms...)),
	}
	for name, want := range map[string]int{"a follower": raft.Follower, "a led follower": raft.Follower, "an asker": raft.Asker, "a candidate": raft.Candidate, "a leader": raft.Leader} {
		if x := all[name]; x.Role() != want || x.Term() != 5 {
			t.Fatalf("%s is %+v", name, viewOf(x))
		}
	}
	return all
}

// P8.1: the chapter's example.
func TestTheExample(t *testing.T) {
	x, fault := raft.New(0, 1, 2, 1, atFirst())
	if fault != api.OK {
		t.Fatal(fault)
	}
	x.Tick(0)
	mustBe(t, "behind one tick", x, view{raft.Follower, 0, -1, 0, 0})
	mustSaveNothing(t, "behind one tick", x)
	x.Tick(0)
	mustBe(t, "behind two ticks", x, view{raft.Leader, 1, 0, 1, 1})
	mustSend(t, "alone", x)
	mustSave(t, "behind two ticks", x, api.Save{Hard: true, Term: 1, Vote: 0, From: 1, Entries: []api.Entry{{Term: 1}}})
	if got := x.Committed(1); !slices.Equal(got, []api.Entry{{Term: 1}}) {
		t.Error("committed:", got)
	}
}

func TestTheRoles(t *testing.T) {
	if raft.Follower != 0 || raft.Asker != 1 || raft.Candidate != 2 || raft.Leader != 3 {
		t.Error(raft.Follower, raft.Asker, raft.Candidate, raft.Leader)
	}
}

// P8.1: New's numbers at their ends, and beside them.
func TestNewsNumbers(t *testing.T) {
	wrong := api.State{Term: -1}
	for _, c := range []struct {
		id, n, elect, beat int
		fault              api.Errno
	}{
		{0, 1, 1, 1, api.OK},
		{0, 1, 1000, 1000, api.OK},
		{0, 1, 1000, 1, api.OK},
		{6, 7, 4, 4, api.OK},
		{0, api.MaxNodes, 4, 2, api.OK},
		{0, 0, 4, 2, api.ErrArg},
		{0, -1, 4, 2, api.ErrArg},
		{0, math.MinInt, 4, 2, api.ErrArg},
		{0, api.MaxNodes + 1, 4, 2, api.ErrArg},
		{0, math.MaxInt, 4, 2, api.ErrArg},
		{-1, 3, 4, 2, api.ErrArg},
		{3, 3, 4, 2, api.ErrArg},
		{1, 1, 4, 2, api.ErrArg},
		{7, 7, 4, 2, api.ErrArg},
		{math.MinInt, 3, 4, 2, api.ErrArg},
		{math.MaxInt, 3, 4, 2, api.ErrArg},
		{0, 3, 0, 0, api.ErrArg},
		{0, 3, 0, 1, api.ErrArg},
		{0, 3, -1, 1, api.ErrArg},
		{0, 3, 1001, 2, api.ErrArg},
		{0, 3, math.MaxInt, 2, api.ErrArg},
		{0, 3, 4, 0, api.ErrArg},
		{0, 3, 4, -1, api.ErrArg},
		{0, 3, 4, 5, api.ErrArg},
		{0, 3, 1000, 1001, api.ErrArg},
		{0, 3, 4, math.MaxInt, api.ErrArg},
		{0, 3, 4, math.MinInt, api.ErrArg},
	} {
		x, fault := raft.New(c.id, c.n, c.elect, c.beat, with(3, 1, 2))
		if fault != c.fault || (x != nil) != (fault == api.OK) {
			t.Errorf("New(%d, %d, %d, %d): %v, %d, not %d", c.id, c.n, c.elect, c.beat, x != nil, fault, c.fault)
		}
		want := c.fault
		if want == api.OK {
			want = api.ErrForm
		}
		if x, fault := raft.New(c.id, c.n, c.elect, c.beat, wrong); x != nil || fault != want {
			t.Errorf("New(%d, %d, %d, %d, a state that may not be): %v, %d, not %d", c.id, c.n, c.elect, c.beat, x != nil, fault, want)
		}
	}
}

// P8.1: the states that may be, and those beside them that may not.
func TestNewsState(t *testing.T) {
	longest := strings.Repeat("c", api.MaxCommand)
	for name, s := range map[string]api.State{
		"at first":                   atFirst(),
		"voted for one beyond the n": {Term: 1, Vote: api.MaxNodes - 1},
		"the greatest term":          with(api.MaxTerm, 1, api.MaxTerm),
		"terms that stay and rise":   with(9, 1, 1, 2, 9, 9),
		"as many entries as may be":  {Term: 2, Vote: 0, Entries: many(api.MaxEntries, 2)},
		"the longest command":        {Term: 2, Vote: 0, Entries: []api.Entry{{Term: 2, Data: longest}}},
	} {
		x := node(t, 1, 3, s)
		mustHave(t, name, x, s)
		mustBe(t, name, x, view{raft.Follower, s.Term, -1, 0, len(s.Entries)})
		mustSend(t, name, x)
		mustSaveNothing(t, name, x)
		if got := x.Committed(1); len(got) != 0 {
			t.Errorf("%s: %d entries are committed at first", name, len(got))
		}
	}
	for name, s := range map[string]api.State{
		"a term below 0":            with(-1),
		"a term beyond MaxTerm":     with(api.MaxTerm + 1),
		"a vote below nobody":       {Term: 1, Vote: -2},
		"a vote beyond MaxNodes":    {Term: 1, Vote: api.MaxNodes},
		"an entry of the term 0":    with(3, 0),
		"an entry beyond the term":  with(3, 1, 4),
		"terms that fall":           with(3, 1, 3, 2),
		"an entry too many":         {Term: 2, Vote: 0, Entries: many(api.MaxEntries+1, 2)},
		"a command that is too big": {Term: 2, Vote: 0, Entries: []api.Entry{{Term: 2, Data: longest + "c"}}},
	} {
		if x, fault := raft.New(1, 3, elect, beat, s); x != nil || fault != api.ErrForm {
			t.Errorf("%s: %v, %d", name, x != nil, fault)
		}
	}
}

// P8.1: no node has nothing, and takes nothing; one that New didn't make neither.
func TestNoNode(t *testing.T) {
	for name, x := range map[string]*raft.Node{"nil": nil, "zero": {}} {
		for _, draw := range []int{math.MinInt, -1, 0, 1, math.MaxInt} {
			x.Tick(draw)
		}
		for kind := range 9 {
			for _, term := range []int{-1, 0, 1} {
				x.Step(api.Message{Kind: kind, Term: term, Yes: true, Entries: of(1)})
				x.Step(api.Message{Kind: kind, From: 1, Term: term})
			}
		}
		for _, data := range []string{"", "some", strings.Repeat("c", api.MaxCommand+1)} {
			if index, fault := x.Propose(data); index != 0 || fault != api.ErrArg {
				t.Errorf("%s: Propose: %d, %d", name, index, fault)
			}
		}
		mustBe(t, name, x, view{raft.Follower, 0, -1, 0, 0})
		mustSend(t, name, x)
		mustSaveNothing(t, name, x)
		mustHave(t, name, x, api.State{})
		for _, from := range []int{math.MinInt, 0, 1, math.MaxInt} {
			if got := x.Committed(from); len(got) != 0 {
				t.Errorf("%s: committed: %v", name, got)
			}
		}
	}
}

// P8.1: it asks as soon as since is at least Elect and draw modulo Elect.
func TestWhenItAsks(t *testing.T) {
	for _, wait := range []int{1, 2, 3, 4, 7, 1000} {
		for _, c := range [][2]int{ // a draw, and what it adds
			{0, 0}, {-1, 0}, {math.MinInt, 0}, {1, 1 % wait}, {wait - 1, wait - 1}, {wait, 0}, {wait + 1, 1 % wait}, {7*wait - 1, wait - 1}, {math.MaxInt, math.MaxInt % wait},
		} {
			x, _ := raft.New(1, 3, wait, 1, with(2, 1, 2))
			for range wait + c[1] - 1 {
				x.Tick(c[0])
			}
			where := fmt.Sprintf("Elect %d, draw %d", wait, c[0])
			mustBe(t, where+", a tick ahead", x, view{raft.Follower, 2, -1, 0, 2})
			mustSend(t, where+", a tick ahead", x)
			x.Tick(c[0])
			mustBe(t, where, x, view{raft.Asker, 2, -1, 0, 2})
			mustSaveNothing(t, where, x)
		}
	}
}

// P8.1: the draw of the tick itself counts, not one ahead.
func TestDrawsThatChange(t *testing.T) {
	x := node(t, 0, 3, atFirst())
	for range elect + 2 {
		x.Tick(3)
	}
	mustBe(t, "a tick ahead", x, view{raft.Follower, 0, -1, 0, 0})
	x.Tick(2)
	mustBe(t, "a lesser draw", x, view{raft.Asker, 0, -1, 0, 0})

	x = node(t, 0, 3, atFirst())
	for range elect - 1 {
		x.Tick(0)
	}
	x.Tick(1)
	mustBe(t, "a greater draw", x, view{raft.Follower, 0, -1, 0, 0})
	x.Tick(1)
	mustBe(t, "a greater draw, one tick more", x, view{raft.Asker, 0, -1, 0, 0})
}

// P8.1: who asks asks all others, by number, and tells its log.
func TestWhatItAsks(t *testing.T) {
	for n := 2; n <= api.MaxNodes; n++ {
		for id := range n {
			x := node(t, id, n, with(6, 1, 4, 4))
			ticks(x, elect)
			where := fmt.Sprintf("the %d of %d", id, n)
			var pre, vote []api.Message
			for to := range n {
				if to != id {
					pre = append(pre, api.Message{Kind: api.AskPre, From: id, To: to, Term: 7, Index: 3, LogTerm: 4})
					vote = append(vote, api.Message{Kind: api.AskVote, From: id, To: to, Term: 7, Index: 3, LogTerm: 4})
				}
			}
			mustBe(t, where, x, view{raft.Asker, 6, -1, 0, 3})
			mustSend(t, where+" asks", x, pre...)
			mustSaveNothing(t, where+" asks", x)
			for said := 1; said <= n/2; said++ {
				mustBe(t, where+", too few said yes", x, view{raft.Asker, 6, -1, 0, 3})
				mustSend(t, where+", too few said yes", x)
				x.Step(api.Message{Kind: api.TellPre, From: (id + said) % n, To: id, Term: 7, Yes: true})
			}
			mustBe(t, where+" stands", x, view{raft.Candidate, 7, -1, 0, 3})
			mustSend(t, where+" stands", x, vote...)
			mustSave(t, where+" stands", x, api.Save{Hard: true, Term: 7, Vote: id})
			mustHave(t, where+" stands", x, api.State{Term: 7, Vote: id, Entries: of(1, 4, 4)})
		}
	}
}

// P8.1: with a majority of votes it leads, adds an entry, and sends it to all.
func TestHowItBeginsToLead(t *testing.T) {
	for n := 2; n <= api.MaxNodes; n++ {
		for id := range n {
			x := node(t, id, n, with(6, 1, 4, 4))
			ticks(x, elect)
			for said := 1; said <= n/2; said++ {
				x.Step(api.Message{Kind: api.TellPre, From: (id + said) % n, To: id, Term: 7, Yes: true})
			}
			quiet(x)
			where := fmt.Sprintf("the %d of %d", id, n)
			for said := 1; said <= n/2; said++ {
				mustBe(t, where+", too few votes", x, view{raft.Candidate, 7, -1, 0, 3})
				mustSend(t, where+", too few votes", x)
				x.Step(api.Message{Kind: api.TellVote, From: (id + n - said) % n, To: id, Term: 7, Yes: true})
			}
			var first []api.Message
			for to := range n {
				if to != id {
					first = append(first, api.Message{Kind: api.Append, From: id, To: to, Term: 7, Index: 3, LogTerm: 4, Entries: []api.Entry{{Term: 7}}})
				}
			}
			mustBe(t, where+" leads", x, view{raft.Leader, 7, id, 0, 4})
			mustSend(t, where+" leads", x, first...)
			mustSave(t, where+" leads", x, api.Save{From: 4, Entries: []api.Entry{{Term: 7}}})
			mustHave(t, where+" leads", x, api.State{Term: 7, Vote: id, Entries: append(of(1, 4, 4), api.Entry{Term: 7})})
		}
	}
}

// P8.1: without a log, the entry of who leads follows the index 0.
func TestItLeadsWithoutALog(t *testing.T) {
	x := candidate(t, 3, atFirst())
	x.Step(api.Message{Kind: api.TellVote, From: 2, Term: 1, Yes: true})
	first := api.Message{Kind: api.Append, Term: 1, Entries: []api.Entry{{Term: 1}}}
	one, two := first, first
	one.To, two.To = 1, 2
	mustSend(t, "without a log", x, one, two)
	mustBe(t, "without a log", x, view{raft.Leader, 1, 0, 0, 1})
}

// P8.1: a yes counts once; a no, one of another term, and one of another kind don't.
func TestWhichYesCount(t *testing.T) {
	for name, m := range map[string]api.Message{
		"one that is told twice": {Kind: api.TellPre, From: 1, Term: 6, Yes: true},
		"a no":                   {Kind: api.TellPre, From: 2, Term: 5},
		"of its own term":        {Kind: api.TellPre, From: 2, Term: 5, Yes: true},
		"of an elder term":       {Kind: api.TellPre, From: 2, Term: 4, Yes: true},
		"of the term 0":          {Kind: api.TellPre, From: 2, Term: 0, Yes: true},
		"of a term beyond":       {Kind: api.TellPre, From: 2, Term: 7, Yes: true},
		"of the greatest term":   {Kind: api.TellPre, From: 2, Term: api.MaxTerm, Yes: true},
		"a vote":                 {Kind: api.TellVote, From: 2, Term: 5, Yes: true},
		"a told":                 {Kind: api.Told, From: 2, Term: 5, Yes: true},
	} {
		x := asker(t, 5, with(5, 2))
		x.Step(api.Message{Kind: api.TellPre, From: 1, Term: 6, Yes: true})
		for range 5 {
			x.Step(m)
		}
		mustBe(t, "asking, "+name, x, view{raft.Asker, 5, -1, 0, 1})
		mustSend(t, "asking, "+name, x)
		mustSaveNothing(t, "asking, "+name, x)
		x.Step(api.Message{Kind: api.TellPre, From: 3, Term: 6, Yes: true})
		mustBe(t, "asking, the third yes, "+name, x, view{raft.Candidate, 6, -1, 0, 1})
	}
	for name, m := range map[string]api.Message{
		"one that is told twice": {Kind: api.TellVote, From: 1, Term: 6, Yes: true},
		"a no":                   {Kind: api.TellVote, From: 2, Term: 6},
		"of an elder term":       {Kind: api.TellVote, From: 2, Term: 5, Yes: true},
		"that one would vote":    {Kind: api.TellPre, From: 2, Term: 6, Yes: true},
		"that one would, beyond": {Kind: api.TellPre, From: 2, Term: 7, Yes: true},
		"a told":                 {Kind: api.Told, From: 2, Term: 6, Yes: true},
	} {
		x := candidate(t, 5, with(5, 2))
		x.Step(api.Message{Kind: api.TellVote, From: 1, Term: 6, Yes: true})
		for range 5 {
			x.Step(m)
		}
		mustBe(t, "standing, "+name, x, view{raft.Candidate, 6, -1, 0, 1})
		mustSend(t, "standing, "+name, x)
		mustSaveNothing(t, "standing, "+name, x)
		x.Step(api.Message{Kind: api.TellVote, From: 4, Term: 6, Yes: true})
		mustBe(t, "standing, the third vote, "+name, x, view{raft.Leader, 6, 0, 0, 2})
	}
}

// P8.1: who said yes is forgotten when it asks, or stands, anew.
func TestEachAskingCountsAnew(t *testing.T) {
	x := asker(t, 5, with(5, 2))
	x.Step(api.Message{Kind: api.TellPre, From: 1, Term: 6, Yes: true})
	ticks(x, elect-1)
	mustSend(t, "a tick ahead", x)
	x.Tick(0)
	if got := x.Out(); len(got) != 4 || got[0].Kind != api.AskPre || got[0].Term != 6 {
		t.Errorf("asking again: %+v", got)
	}
	x.Step(api.Message{Kind: api.TellPre, From: 2, Term: 6, Yes: true})
	mustBe(t, "asking again, two of five", x, view{raft.Asker, 5, -1, 0, 1})
	x.Step(api.Message{Kind: api.TellPre, From: 1, Term: 6, Yes: true})
	mustBe(t, "asking again, three of five", x, view{raft.Candidate, 6, -1, 0, 1})
	quiet(x)

	x.Step(api.Message{Kind: api.TellVote, From: 1, Term: 6, Yes: true})
	ticks(x, elect-1)
	mustBe(t, "standing, a tick ahead", x, view{raft.Candidate, 6, -1, 0, 1})
	x.Tick(0)
	mustBe(t, "standing, then asking", x, view{raft.Asker, 6, -1, 0, 1})
	if got := x.Out(); len(got) != 4 || got[0].Kind != api.AskPre || got[0].Term != 7 {
		t.Errorf("a candidate that asks: %+v", got)
	}
	mustSaveNothing(t, "standing, then asking", x)
	x.Step(api.Message{Kind: api.TellVote, From: 2, Term: 6, Yes: true})
	x.Step(api.Message{Kind: api.TellPre, From: 2, Term: 7, Yes: true})
	mustBe(t, "a vote that comes late", x, view{raft.Asker, 6, -1, 0, 1})
	x.Step(api.Message{Kind: api.TellPre, From: 4, Term: 7, Yes: true})
	mustBe(t, "standing again", x, view{raft.Candidate, 7, -1, 0, 1})
	mustSave(t, "standing again", x, api.Save{Hard: true, Term: 7, Vote: 0})
	x.Step(api.Message{Kind: api.TellVote, From: 2, Term: 7, Yes: true})
	mustBe(t, "standing again, two of five", x, view{raft.Candidate, 7, -1, 0, 1})
}

// P8.1: what it asks for begins its ticks anew.
func TestAskingAndStandingBeginTheTicks(t *testing.T) {
	x := asker(t, 3, with(5))
	ticks(x, elect-1)
	x.Step(api.Message{Kind: api.TellPre, From: 2, Term: 6, Yes: true})
	quiet(x)
	ticks(x, elect-1)
	mustBe(t, "standing begins", x, view{raft.Candidate, 6, -1, 0, 0})
	x.Tick(0)
	mustBe(t, "standing went by", x, view{raft.Asker, 6, -1, 0, 0})
	ticks(x, elect-1)
	mustBe(t, "asking went by", quiet(x), view{raft.Asker, 6, -1, 0, 0})
	mustSend(t, "asking goes on", x)
	x.Tick(0)
	if got := x.Out(); len(got) != 2 || got[0].Kind != api.AskPre {
		t.Errorf("asking again: %+v", got)
	}
}

// P8.1: a node alone asks, stands and leads at once, and commits what is proposed.
func TestAlone(t *testing.T) {
	x := node(t, 0, 1, with(5, 2, 3))
	ticks(x, elect-1)
	mustBe(t, "a tick ahead", x, view{raft.Follower, 5, -1, 0, 2})
	x.Tick(0)
	mustBe(t, "alone", x, view{raft.Leader, 6, 0, 3, 3})
	mustSave(t, "alone", x, api.Save{Hard: true, Term: 6, Vote: 0, From: 3, Entries: []api.Entry{{Term: 6}}})
	has := append(of(2, 3), api.Entry{Term: 6})
	for i, data := range []string{"a", "", "b\x00\xff", strings.Repeat("c", api.MaxCommand)} {
		index, fault := x.Propose(data)
		if index != 4+i || fault != api.OK {
			t.Errorf("Propose: %d, %d", index, fault)
		}
		has = append(has, api.Entry{Term: 6, Data: data})
		mustBe(t, "proposed", x, view{raft.Leader, 6, 0, index, index})
		mustSave(t, "proposed", x, api.Save{From: index, Entries: has[index-1:]})
	}
	ticks(x, 10*elect)
	mustBe(t, "alone, long", x, view{raft.Leader, 6, 0, 7, 7})
	mustSend(t, "alone", x)
	mustSaveNothing(t, "alone, long", x)
	mustHave(t, "alone", x, api.State{Term: 6, Vote: 0, Entries: has})
	if got := x.Committed(1); !slices.Equal(got, has) {
		t.Errorf("committed: %+v", got)
	}
}

// P8.1: a leader sends each Beat ticks, and each Elect ticks asks itself whether it heard of a majority.
func TestALeadersTicks(t *testing.T) {
	for _, c := range [][2]int{{1, 1}, {4, 1}, {4, 2}, {4, 3}, {4, 4}, {6, 4}, {10, 3}} {
		for n := 2; n <= 5; n++ {
			x, _ := raft.New(0, n, c[0], c[1], with(5, 2))
			ticks(x, c[0])
			for from := 1; from <= n/2; from++ {
				x.Step(api.Message{Kind: api.TellPre, From: from, Term: 6, Yes: true})
			}
			for from := 1; from <= n/2; from++ {
				x.Step(api.Message{Kind: api.TellVote, From: from, Term: 6, Yes: true})
			}
			quiet(x)
			for tick := 1; tick <= 5*c[0]; tick++ {
				for from := 1; from <= n/2; from++ { // they have nothing, but are there
					x.Step(api.Message{Kind: api.Told, From: from, Term: 6, Yes: true, Index: 99})
				}
				x.Tick(tick)
				where := fmt.Sprintf("Elect %d, Beat %d, tick %d of the leader of %d", c[0], c[1], tick, n)
				mustBe(t, where, x, view{raft.Leader, 6, 0, 0, 2})
				var want []api.Message
				for to := 1; to < n && tick%c[1] == 0; to++ {
					want = append(want, api.Message{Kind: api.Append, To: to, Term: 6, Index: 1, LogTerm: 2, Entries: []api.Entry{{Term: 6}}})
				}
				mustSend(t, where, x, want...)
			}
			mustSaveNothing(t, "a leader's ticks", x)
		}
	}
}

// P8.1: a leader that hears of no majority, itself counted, since it last asked itself follows its term, and nobody.
func TestALeaderThatHearsOfNoMajority(t *testing.T) {
	for n := 2; n <= api.MaxNodes; n++ {
		for hears := range n {
			x := leader(t, n, with(5, 2))
			where := fmt.Sprintf("%d others heard of, of %d", hears, n)
			for round := range 3 { // all are heard of at first, whichever their answers are
				for from := 1; from < n; from++ {
					x.Step(api.Message{Kind: api.Told, From: from, Term: 6, Yes: (round+from)%2 == 0})
				}
				ticks(x, elect)
				mustBe(t, where+", at first", quiet(x), view{raft.Leader, 6, 0, 0, 2})
			}
			ticks(x, elect-1)
			for from := 1; from <= hears; from++ {
				for range 3 {
					x.Step(api.Message{Kind: api.Told, From: from, Term: 6})
				}
			}
			quiet(x)
			x.Tick(0)
			want := view{raft.Follower, 6, -1, 0, 2}
			if 2*(hears+1) > n {
				want.role, want.leader = raft.Leader, 0
			}
			mustBe(t, where, x, want)
			if got := x.Out(); len(got) != n-1 || got[0].Kind != api.Append {
				t.Errorf("%s: the last beat comes first: %+v", where, got)
			}
			mustSaveNothing(t, where, x)
			mustHave(t, where, x, api.State{Term: 6, Vote: 0, Entries: append(of(2), api.Entry{Term: 6})})
		}
	}
}

// P8.1: what isn't a Told of its term isn't heard of.
func TestWhatALeaderDoesntHear(t *testing.T) {
	for name, m := range map[string]api.Message{
		"an elder told":         {Kind: api.Told, Term: 5},
		"an elder append":       {Kind: api.Append, Term: 5},
		"an append of its term": {Kind: api.Append, Term: 6},
		"a vote":                {Kind: api.TellVote, Term: 6, Yes: true},
		"one who asks":          {Kind: api.AskPre, Term: 7},
		"one who asks to vote":  {Kind: api.AskVote, Term: 6},
		"one who would vote":    {Kind: api.TellPre, Term: 7, Yes: true},
		"one who wouldn't":      {Kind: api.TellPre, Term: 6},
		"a told to another one": {Kind: api.Told, Term: 6, To: 1},
	} {
		x := leader(t, 3, with(5, 2))
		for range elect {
			for from := 1; from < 3; from++ {
				m.From = from
				x.Step(m)
			}
			mustBe(t, name, x, view{raft.Leader, 6, 0, 0, 2})
			x.Tick(0)
		}
		mustBe(t, name, x, view{raft.Follower, 6, -1, 0, 2})
	}
}

// P8.1: one who led is one who may ask, and be asked.
func TestALeaderThatFollowsMayAskAgain(t *testing.T) {
	x := leader(t, 3, with(5, 2))
	ticks(x, elect)
	mustBe(t, "it led", quiet(x), view{raft.Follower, 6, -1, 0, 2})
	if index, fault := x.Propose("a"); index != 0 || fault != api.ErrLead {
		t.Errorf("Propose: %d, %d", index, fault)
	}
	x.Step(api.Message{Kind: api.AskPre, From: 2, Term: 7, Index: 2, LogTerm: 6})
	mustSend(t, "asked", x, api.Message{Kind: api.TellPre, To: 2, Term: 7, Yes: true})
	x.Step(api.Message{Kind: api.AskVote, From: 2, Term: 6, Index: 9, LogTerm: 6})
	mustSend(t, "it voted for itself", x, api.Message{Kind: api.TellVote, To: 2, Term: 6})
	ticks(x, 2*elect)
	mustBe(t, "it asks", x, view{raft.Asker, 6, -1, 0, 2})
}

// P8.1: at the term MaxTerm it doesn't ask; one below it does, and leads at MaxTerm.
func TestTheGreatestTerm(t *testing.T) {
	for _, n := range []int{1, 3} {
		for _, s := range []api.State{with(api.MaxTerm), with(api.MaxTerm, 1, api.MaxTerm)} {
			x := node(t, 0, n, s)
			ticks(x, 5*elect)
			mustBe(t, "at MaxTerm", x, view{raft.Follower, api.MaxTerm, -1, 0, len(s.Entries)})
			mustSend(t, "at MaxTerm", x)
			mustSaveNothing(t, "at MaxTerm", x)
		}
	}
	x := leader(t, 3, with(api.MaxTerm-1))
	mustBe(t, "it leads at MaxTerm", x, view{raft.Leader, api.MaxTerm, 0, 0, 1})
	ticks(x, elect)
	ticks(quiet(x), 5*elect)
	mustBe(t, "it led at MaxTerm", x, view{raft.Follower, api.MaxTerm, -1, 0, 1})
	mustSend(t, "it led at MaxTerm", x)

	x = node(t, 0, 1, with(api.MaxTerm-1))
	ticks(x, elect)
	mustBe(t, "alone, at MaxTerm", x, view{raft.Leader, api.MaxTerm, 0, 1, 1})

	x = node(t, 0, 3, with(3))
	x.Step(api.Message{Kind: api.AskVote, From: 1, Term: api.MaxTerm})
	mustSend(t, "asked to vote at MaxTerm", x, api.Message{Kind: api.TellVote, To: 1, Term: api.MaxTerm, Yes: true})
	mustSave(t, "asked to vote at MaxTerm", x, api.Save{Hard: true, Term: api.MaxTerm, Vote: 1})
	x = node(t, 0, 3, with(api.MaxTerm))
	x.Step(api.Message{Kind: api.AskPre, From: 1, Term: api.MaxTerm})
	mustSend(t, "asked at MaxTerm", x, api.Message{Kind: api.TellPre, To: 1, Term: api.MaxTerm})
}

// P8.1: AskPre: yes to a greater term and a log that isn't elder, of one that doesn't lead, and isn't led; nothing else changes.
func TestAskPre(t *testing.T) {
	for name, x := range roles(t) {
		before, state := viewOf(x), x.State()
		free := name != "a leader" && name != "a led follower"
		lastIndex, lastTerm := len(state.Entries), state.Entries[len(state.Entries)-1].Term
		for _, term := range []int{0, 4, 5, 6, 7, api.MaxTerm} {
			for _, logTerm := range []int{-1, 0, 2, 3, 4, 5, 6} {
				for _, index := range []int{math.MinInt, -1, 0, 2, 3, 4, 5, math.MaxInt} {
					x.Step(api.Message{Kind: api.AskPre, From: 2, Term: term, Index: index, LogTerm: logTerm})
					want := api.Message{Kind: api.TellPre, To: 2, Term: 5}
					if free && term > 5 && (logTerm > lastTerm || logTerm == lastTerm && index >= lastIndex) {
						want.Term, want.Yes = term, true
					}
					where := fmt.Sprintf("%s, AskPre of %d, of the log %d, %d", name, term, index, logTerm)
					mustSend(t, where, x, want)
					mustBe(t, where, x, before)
					mustSaveNothing(t, where, x)
				}
			}
		}
		mustHave(t, name, x, state)
	}
}

// P8.1: one that is led says no till Elect ticks went by since it was.
func TestAskPreOfOneThatWasLed(t *testing.T) {
	x := led(t, 3, with(5, 2))
	for tick := range elect + 2 {
		x.Step(api.Message{Kind: api.AskPre, From: 2, Term: 6, Index: 1, LogTerm: 2})
		want := api.Message{Kind: api.TellPre, To: 2, Term: 5}
		if tick >= elect {
			want.Term, want.Yes = 6, true
		}
		where := fmt.Sprintf("%d ticks since it was led", tick)
		mustSend(t, where, x, want)
		mustBe(t, where, x, view{raft.Follower, 5, 1, 0, 1})
		x.Tick(elect - 1)
	}
	x.Step(api.Message{Kind: api.Append, From: 1, Term: 5})
	quiet(x)
	x.Step(api.Message{Kind: api.AskPre, From: 2, Term: 6, Index: 1, LogTerm: 2})
	mustSend(t, "led again", x, api.Message{Kind: api.TellPre, To: 2, Term: 5})
}

// P8.1: a no of a greater term is followed; of a yes, and of lesser ones, nothing comes.
func TestTellPre(t *testing.T) {
	for _, yes := range []bool{false, true} {
		for _, term := range []int{0, 4, 5, 6, 7, api.MaxTerm} {
			for name, x := range roles(t) {
				want, state := viewOf(x), x.State()
				switch {
				case !yes && term > 5:
					want.role, want.leader, want.term = raft.Follower, -1, term
					state.Term, state.Vote = term, -1
				case yes && term == 6 && name == "an asker":
					want.role, want.term = raft.Candidate, 6
					state.Term, state.Vote = 6, 0
				}
				x.Step(api.Message{Kind: api.TellPre, From: 1, Term: term, Yes: yes})
				where := fmt.Sprintf("%s, TellPre %v of %d", name, yes, term)
				mustBe(t, where, x, want)
				mustHave(t, where, x, state)
				if state.Term != 5 {
					mustSave(t, where, x, api.Save{Hard: true, Term: state.Term, Vote: state.Vote})
				}
				mustSaveNothing(t, where, x)
				if want.role != raft.Candidate {
					mustSend(t, where, x)
				}
			}
		}
	}
}

// P8.1: AskVote: yes of one that votes for nobody, or for that one, doesn't lead, and hasn't a younger log.
func TestAskVote(t *testing.T) {
	for _, term := range []int{0, 4, 5, 6, api.MaxTerm} {
		for _, log := range [][2]int{{9, 0}, {9, 2}, {0, 3}, {2, 3}, {3, 3}, {4, 3}, {-1, 4}, {1, 5}, {4, 5}, {0, 6}} {
			for name, x := range roles(t) {
				want, state := viewOf(x), x.State()
				last := [2]int{len(state.Entries), state.Entries[len(state.Entries)-1].Term}
				free := state.Vote == -1 || term > 5
				yes := term >= 5 && free && (log[1] > last[1] || log[1] == last[1] && log[0] >= last[0])
				if term > 5 {
					want.role, want.leader, want.term = raft.Follower, -1, term
					state.Term, state.Vote = term, -1
				}
				if yes {
					state.Vote = 2
				}
				x.Step(api.Message{Kind: api.AskVote, From: 2, Term: term, Index: log[0], LogTerm: log[1]})
				where := fmt.Sprintf("%s, AskVote of %d, of the log %v", name, term, log)
				mustBe(t, where, x, want)
				mustHave(t, where, x, state)
				if term >= 5 {
					mustSend(t, where, x, api.Message{Kind: api.TellVote, To: 2, Term: term, Yes: yes})
				}
				mustSend(t, where, x)
				if yes || term > 5 {
					mustSave(t, where, x, api.Save{Hard: true, Term: term, Vote: state.Vote})
				}
				mustSaveNothing(t, where, x)
			}
		}
	}
}

// P8.1: who votes tells the same one yes again, and others no, in its term; in the next one it is free.
func TestAVoteStays(t *testing.T) {
	x := node(t, 0, 5, with(5, 2))
	for _, c := range []struct {
		from, term int
		yes        bool
	}{{3, 6, true}, {3, 6, true}, {1, 6, false}, {2, 6, false}, {3, 6, true}, {1, 7, true}, {3, 7, false}, {1, 7, true}} {
		was := x.State()
		x.Step(api.Message{Kind: api.AskVote, From: c.from, Term: c.term, Index: 1, LogTerm: 2})
		where := fmt.Sprintf("%d asks in %d", c.from, c.term)
		mustSend(t, where, x, api.Message{Kind: api.TellVote, To: c.from, Term: c.term, Yes: c.yes})
		if is := x.State(); is.Term != was.Term || is.Vote != was.Vote {
			mustSave(t, where, x, api.Save{Hard: true, Term: c.term, Vote: c.from})
		}
		mustSaveNothing(t, where, x)
	}

	x = node(t, 0, 5, api.State{Term: 6, Vote: 3})
	x.Step(api.Message{Kind: api.AskVote, From: 1, Term: 6})
	x.Step(api.Message{Kind: api.AskVote, From: 3, Term: 6})
	mustSend(t, "a vote that was kept", x, api.Message{Kind: api.TellVote, To: 1, Term: 6}, api.Message{Kind: api.TellVote, To: 3, Term: 6, Yes: true})
	mustSaveNothing(t, "a vote that was kept", x)
}

// P8.1: a yes begins the ticks anew, a no doesn't.
func TestAVoteBeginsTheTicks(t *testing.T) {
	for _, yes := range []bool{true, false} {
		x := node(t, 0, 3, with(5, 2))
		ticks(x, elect-1)
		m := api.Message{Kind: api.AskVote, From: 1, Term: 5}
		if yes {
			m.Index, m.LogTerm = 1, 2
		}
		x.Step(m)
		x.Tick(0)
		want := view{raft.Asker, 5, -1, 0, 1}
		if yes {
			want.role = raft.Follower
		}
		mustBe(t, fmt.Sprint("asked, ", yes), x, want)
		if yes {
			x.Step(m) // told twice
			ticks(x, elect-1)
			mustBe(t, "asked twice", x, want)
			x.Tick(0)
			mustBe(t, "asked twice, a tick more", x, view{raft.Asker, 5, -1, 0, 1})
		}
	}
}

// P8.1: one that asks is free to vote, and stays what it is.
func TestAnAskerVotes(t *testing.T) {
	x := asker(t, 3, with(5, 2))
	ticks(x, elect-1)
	x.Step(api.Message{Kind: api.AskVote, From: 2, Term: 5, Index: 1, LogTerm: 2})
	mustSend(t, "an asker votes", x, api.Message{Kind: api.TellVote, To: 2, Term: 5, Yes: true})
	mustSave(t, "an asker votes", x, api.Save{Hard: true, Term: 5, Vote: 2})
	ticks(x, elect-1)
	mustBe(t, "an asker votes", x, view{raft.Asker, 5, -1, 0, 1})
	mustSend(t, "its ticks begin anew", x)
	x.Step(api.Message{Kind: api.TellPre, From: 1, Term: 6, Yes: true})
	mustBe(t, "it stands", x, view{raft.Candidate, 6, -1, 0, 1})
	mustSave(t, "it stands", x, api.Save{Hard: true, Term: 6, Vote: 0})
}

// P8.1: a message of a greater term is followed, by each role; of a lesser one nothing comes, but a no to an Append.
func TestElderAndYoungerTerms(t *testing.T) {
	for _, kind := range []int{api.TellVote, api.Told} {
		for _, yes := range []bool{false, true} {
			for _, term := range []int{0, 4, 6, 9, api.MaxTerm} {
				for name, x := range roles(t) {
					want, state := viewOf(x), x.State()
					if term > 5 {
						want.role, want.leader, want.term = raft.Follower, -1, term
						state.Term, state.Vote = term, -1
					}
					x.Step(api.Message{Kind: kind, From: 1, Term: term, Yes: yes, Index: 1})
					where := fmt.Sprintf("%s, kind %d, %v, of %d", name, kind, yes, term)
					mustBe(t, where, x, want)
					mustHave(t, where, x, state)
					mustSend(t, where, x)
					if term > 5 {
						mustSave(t, where, x, api.Save{Hard: true, Term: term, Vote: -1})
					}
					mustSaveNothing(t, where, x)
				}
			}
		}
	}
	for name, x := range roles(t) {
		for _, term := range []int{0, 1, 4} {
			before, state := viewOf(x), x.State()
			x.Step(api.Message{Kind: api.Append, From: 2, Term: term, Index: 3, LogTerm: 3, Commit: 3})
			mustSend(t, name+", an elder append", x, api.Message{Kind: api.Told, To: 2, Term: 5})
			mustBe(t, name+", an elder append", x, before)
			mustHave(t, name+", an elder append", x, state)
			mustSaveNothing(t, name+", an elder append", x)
		}
	}
}

// P8.1: an elder Append doesn't begin the ticks anew.
func TestAnElderAppendIsntLed(t *testing.T) {
	x := node(t, 0, 3, with(5, 2))
	ticks(x, elect-1)
	x.Step(api.Message{Kind: api.Append, From: 2, Term: 4})
	x.Tick(0)
	mustBe(t, "an elder append", x, view{raft.Asker, 5, -1, 0, 1})
}

// P8.1: a message that may not be changes nothing, of no role.
func TestMessagesThatDontCount(t *testing.T) {
	longest := strings.Repeat("c", api.MaxCommand)
	for kind := api.AskPre; kind <= api.Told; kind++ {
		right := api.Message{Kind: kind, From: 1, To: 0, Term: 7, Index: 3, LogTerm: 3, Commit: 3, Yes: kind != api.TellPre}
		for name, wrong := range map[string]func(m *api.Message){
			"to another one":           func(m *api.Message) { m.To = 2 },
			"to none of them":          func(m *api.Message) { m.To = 3 },
			"to one below 0":           func(m *api.Message) { m.To = -1 },
			"from itself":              func(m *api.Message) { m.From = 0 },
			"from one beyond":          func(m *api.Message) { m.From = 3 },
			"from one below 0":         func(m *api.Message) { m.From = -1 },
			"from far away":            func(m *api.Message) { m.From = math.MaxInt },
			"from far below":           func(m *api.Message) { m.From = math.MinInt },
			"of the kind 0":            func(m *api.Message) { m.Kind = 0 },
			"of the kind 7":            func(m *api.Message) { m.Kind = 7 },
			"of a kind below 0":        func(m *api.Message) { m.Kind = -1 },
			"of a kind far beyond":     func(m *api.Message) { m.Kind = math.MaxInt },
			"of a term below 0":        func(m *api.Message) { m.Term = -1 },
			"of a term beyond MaxTerm": func(m *api.Message) { m.Term = api.MaxTerm + 1 },
			"of the greatest number":   func(m *api.Message) { m.Term = math.MaxInt },
			"of the least number":      func(m *api.Message) { m.Term = math.MinInt },
			"nine entries":             func(m *api.Message) { m.Entries = many(api.MaxBatch+1, 5) },
			"a command too long":       func(m *api.Message) { m.Entries = []api.Entry{{Term: 5, Data: longest + "c"}} },
			"the last one too long":    func(m *api.Message) { m.Entries = append(of(4, 5), api.Entry{Term: 5, Data: longest + "c"}) },
			"an entry's term 0":        func(m *api.Message) { m.Entries = of(0, 5) },
			"an entry's term below 0":  func(m *api.Message) { m.Entries = of(-1) },
			"an entry's term beyond":   func(m *api.Message) { m.Entries = of(8) },
			"the last one's beyond":    func(m *api.Message) { m.Entries = of(5, 6, 7, 8) },
		} {
			m := right
			wrong(&m)
			for role, x := range roles(t) {
				where := fmt.Sprintf("%s, kind %d, %s", role, kind, name)
				before, state := viewOf(x), x.State()
				x.Step(m)
				mustBe(t, where, x, before)
				mustHave(t, where, x, state)
				mustSend(t, where, x)
				mustSaveNothing(t, where, x)
			}
		}
	}
}

// P8.1: eight entries count, as long as may be, of terms from 1 to the message's, whatever the kind.
func TestMessagesThatJustCount(t *testing.T) {
	entries := []api.Entry{{Term: 1, Data: strings.Repeat("c", api.MaxCommand)}, {Term: 1}, {Term: 2}, {Term: 2}, {Term: 3}, {Term: 7}, {Term: 7}, {Term: 7, Data: "h"}}
	for kind := api.AskVote; kind <= api.Told; kind++ {
		for role, x := range roles(t) {
			x.Step(api.Message{Kind: kind, From: 1, Term: 7, Entries: entries})
			if x.Term() != 7 || x.Role() != raft.Follower {
				t.Errorf("%s, kind %d: it is %+v", role, kind, viewOf(x))
			}
			if kind == api.Append {
				mustHave(t, role, x, api.State{Term: 7, Vote: -1, Entries: slices.Concat(x.State().Entries[:1], entries[1:])})
				mustBe(t, role, x, view{raft.Follower, 7, 1, 0, 8})
			}
		}
	}
	for role, x := range roles(t) {
		x.Step(api.Message{Kind: api.TellPre, From: 1, Term: 7, Entries: entries})
		if x.Term() != 7 {
			t.Errorf("%s, TellPre: it is %+v", role, viewOf(x))
		}
		x.Step(api.Message{Kind: api.AskPre, From: 1, Term: 7, Entries: entries})
		if got := x.Out(); len(got) != 1 || got[0].Kind != api.TellPre {
			t.Errorf("%s, AskPre: it sends %+v", role, got)
		}
	}
}
