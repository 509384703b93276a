package locks_test

import (
	"fmt"
	"math"
	"slices"
	"strconv"
	"strings"
	"testing"

	"kissinggate/api"
	"kissinggate/locks"
)

// longest is as long as a key may be, and tooLong by a byte longer.
var (
	longest = strings.Repeat("m", api.MaxKey)
	tooLong = strings.Repeat("m", api.MaxKey+1)
)

// who are owners with their modes: "1s 2x" is 1 Shared, and 2 Sole.
func who(s string) []api.Hold {
	var l []api.Hold
	for _, one := range strings.Fields(s) {
		last := len(one) - 1
		owner, err := strconv.Atoi(one[:last])
		if err != nil {
			panic(s)
		}
		l = append(l, api.Hold{Owner: owner, Mode: strings.IndexByte(" sx", one[last])})
	}
	return l
}

// line is a key's, with these holders and this queue.
func line(key, holders, queue string) api.Line {
	return api.Line{Key: key, Holders: who(holders), Queue: who(queue)}
}

// told is lines in few words.
func told(l []api.Line) string {
	var b strings.Builder
	for _, line := range l {
		fmt.Fprintf(&b, "%.99q", line.Key)
		for _, h := range line.Holders {
			fmt.Fprintf(&b, " %d%s", h.Owner, mode(h.Mode))
		}
		b.WriteString(" |")
		for _, h := range line.Queue {
			fmt.Fprintf(&b, " %d%s", h.Owner, mode(h.Mode))
		}
		b.WriteString("; ")
	}
	return b.String()
}

func mode(m int) string {
	if m == api.Shared || m == api.Sole {
		return " sx"[m : m+1]
	}
	return fmt.Sprint("?", m)
}

func alike(a, b []api.Line) bool {
	return slices.EqualFunc(a, b, func(x, y api.Line) bool {
		return x.Key == y.Key && slices.Equal(x.Holders, y.Holders) && slices.Equal(x.Queue, y.Queue)
	})
}

// copied are the same lines in memory of their own.
func copied(l []api.Line) []api.Line {
	var c []api.Line
	for _, line := range l {
		c = append(c, api.Line{Key: line.Key, Holders: slices.Concat(line.Holders), Queue: slices.Concat(line.Queue)})
	}
	return c
}

// in is an owner's mode among these, and where it stands.
func in(l []api.Hold, owner int) (mode, at int) {
	for i, h := range l {
		if h.Owner == owner {
			return h.Mode, i
		}
	}
	return 0, -1
}

// rising are numbers in order, each once.
func rising(set map[int]int) []int {
	var l []int
	for n := range set {
		l = append(l, n)
	}
	slices.Sort(l)
	return l
}

// blockers are all by whom an owner is blocked in these lines.
func blockers(l []api.Line, owner int) []int {
	by := map[int]int{}
	for _, line := range l {
		wants, at := in(line.Queue, owner)
		if at < 0 {
			continue
		}
		for _, other := range append(slices.Clone(line.Holders), line.Queue[:at]...) {
			if other.Owner != owner && max(wants, other.Mode) == api.Sole {
				by[other.Owner] = 1
			}
		}
	}
	return rising(by)
}

// owners are all who hold or wait in these lines.
func owners(l []api.Line) []int {
	all := map[int]int{}
	for _, line := range l {
		for _, h := range append(slices.Clone(line.Holders), line.Queue...) {
			all[h.Owner] = 1
		}
	}
	return rising(all)
}

// mustHave: the table has these lines, whichever call is asked.
func mustHave(t *testing.T, where string, x *locks.Table, want ...api.Line) {
	t.Helper()
	if got := x.Lines(); !alike(got, want) {
		t.Fatalf("%s: Lines answers %s, not %s", where, told(got), told(want)) // the other calls would tell the same
	}
	var keys []string
	for _, l := range want {
		keys = append(keys, l.Key)
	}
	if got := x.Keys(); !slices.Equal(got, keys) {
		t.Errorf("%s: Keys answers %.200q, not %.200q", where, got, keys)
	}
	all := owners(want)
	if got := x.Owners(); !slices.Equal(got, all) {
		t.Errorf("%s: Owners answers %v, not %v", where, got, all)
	}
	all = append(all, math.MinInt, -1, math.MaxInt)
	if len(all) < 9 {
		all = append(all, 0, 1, 2, 3)
	}
	for _, owner := range all {
		if got, want := x.Blockers(owner), blockers(want, owner); !slices.Equal(got, want) {
			t.Errorf("%s: Blockers(%d) answers %v, not %v", where, owner, got, want)
		}
	}
	for _, l := range want {
		mustHaveLine(t, where, x, l, all)
	}
	for _, key := range []string{"", "\x00", "k", "kk", "never", "\xff", longest, tooLong} {
		if !slices.Contains(keys, key) {
			mustHaveLine(t, where, x, api.Line{Key: key}, all)
		}
	}
}

// mustHaveLine: the table tells this of a key, and of each owner at it.
func mustHaveLine(t *testing.T, where string, x *locks.Table, want api.Line, owners []int) {
	t.Helper()
	if got := x.Holders(want.Key); !slices.Equal(got, want.Holders) {
		t.Errorf("%s: Holders(%q) answers %v, not %v", where, want.Key, got, want.Holders)
	}
	if got := x.Queue(want.Key); !slices.Equal(got, want.Queue) {
		t.Errorf("%s: Queue(%q) answers %v, not %v", where, want.Key, got, want.Queue)
	}
	for _, owner := range owners {
		held, _ := in(want.Holders, owner)
		if got := x.Holds(owner, want.Key); got != held {
			t.Errorf("%s: Holds(%d, %q) answers %d, not %d", where, owner, want.Key, got, held)
		}
		wants, _ := in(want.Queue, owner)
		if got := x.Waits(owner, want.Key); got != wants {
			t.Errorf("%s: Waits(%d, %q) answers %d, not %d", where, owner, want.Key, got, wants)
		}
	}
}

// mustAsk: Ask answers so, and the table has these lines then.
func mustAsk(t *testing.T, x *locks.Table, owner int, key string, m int, fault api.Errno, then ...api.Line) {
	t.Helper()
	where := fmt.Sprintf("%s behind it Ask(%d, %q, %s)", told(x.Lines()), owner, key, mode(m))
	if why := x.Ask(owner, key, m); why != fault {
		t.Errorf("%s answers %d, not %d", where, why, fault)
	}
	mustHave(t, where, x, then...)
}

// mustLeave: Leave lets these in, and the table has these lines then.
func mustLeave(t *testing.T, x *locks.Table, owner int, letIn []int, then ...api.Line) {
	t.Helper()
	where := fmt.Sprintf("%s behind it Leave(%d)", told(x.Lines()), owner)
	if got := x.Leave(owner); !slices.Equal(got, letIn) {
		t.Errorf("%s lets in %v, not %v", where, got, letIn)
	}
	mustHave(t, where, x, then...)
}

// asked is a table in which these asked, one behind the other, for one key: "1s 2x" is 1 for Shared, then 2 for Sole.
func asked(key, s string) *locks.Table {
	x := locks.New()
	askAll(x, key, s)
	return x
}

func askAll(x *locks.Table, key, s string) {
	for _, h := range who(s) {
		x.Ask(h.Owner, key, h.Mode)
	}
}
