package locks_test

import (
	"fmt"
	"math"
	"slices"
	"testing"

	"kissinggate/api"
	"kissinggate/locks"
)

// mustMake: From makes a table of these lines.
func mustMake(t *testing.T, lines ...api.Line) *locks.Table {
	t.Helper()
	x, why := locks.From(lines)
	if x == nil || why != api.OK {
		t.Fatalf("From(%s) answers %v, %d", told(lines), x, why)
	}
	mustHave(t, fmt.Sprintf("From(%s)", told(lines)), x, lines...)
	return x
}

// mustRefuse: From makes nothing of these lines.
func mustRefuse(t *testing.T, lines ...api.Line) {
	t.Helper()
	if x, why := locks.From(lines); x != nil || why != api.ErrForm {
		t.Errorf("From(%s) answers %v, %d, not nil, %d", told(lines), x, why, api.ErrForm)
	}
}

// P12.1: From of each kind of lines that may be.
func TestFrom(t *testing.T) {
	mustMake(t)
	if x, why := locks.From(nil); x == nil || why != api.OK {
		t.Errorf("From(nil) answers %v, %d", x, why)
	}
	mustMake(t, line("", "0s", ""))
	mustMake(t, line("k", "0x", ""))
	mustMake(t, api.Line{Key: "k", Holders: who("1s"), Queue: []api.Hold{}})
	mustMake(t, line("k", "0s 1s 9s", ""))
	mustMake(t, line("k", "9s", "3x"))
	mustMake(t, line("k", "9x", "3x 2s 1s"))
	mustMake(t, line("k", "1s 2s 3s", "3x 1x 2x"))
	mustMake(t, line("k", "1s 2s", "2x 5x 4s"))
	mustMake(t, api.Line{Key: "k", Holders: []api.Hold{{Owner: math.MaxInt, Mode: api.Sole}}})
	mustMake(t, line("", "1s", ""), line("\x00", "1x", "2s"), line("a", "2s", "1x"), line(longest, "3s", ""), line("mn", "1s", ""), line("\xff", "1s 2s", "1x"))
	_, lines := some()
	mustMake(t, lines...)
}

// P12.1: From of each thing that the chapter refuses, alone, beside lines that may be, and ahead and behind of them.
func TestFromWhatMayNotBe(t *testing.T) {
	huge, least := math.MaxInt, math.MinInt
	for _, bad := range []api.Line{
		line(tooLong, "1s", ""),
		line(longest+longest, "1x", ""),
		line("k", "", ""),
		{Key: "k", Holders: []api.Hold{}, Queue: []api.Hold{}},
		line("k", "2s 1s", ""),
		line("k", "1s 1s", ""),
		line("k", "1s 3s 2s", ""),
		line("k", "1s 2s 2s", ""),
		line("k", "1x 2x", ""), // not as holders may be
		line("k", "1x 2s", ""),
		line("k", "1s 2x", ""),
		line("k", "1s 2s 3x", ""),
		line("k", "1x 1x", ""),
		line("k", "-1s", ""), // an owner below 0
		line("k", "-1x", ""),
		line("k", "-1s 2s", ""),
		line("k", "-2s -1s", ""),
		{Key: "k", Holders: []api.Hold{{Owner: least, Mode: api.Shared}}},
		line("k", "1x", "-1s"),
		line("k", "1x", "-1x"),
		line("k", "1x", "2s -1x"),
		line("k", "1s", "2x -5s"),
		{Key: "k", Holders: who("1x"), Queue: []api.Hold{{Owner: least, Mode: api.Sole}}},
		line("k", "1x", "2s 2s"), // twice in a queue
		line("k", "1x", "2s 2x"),
		line("k", "1x", "2x 2s"),
		line("k", "1s", "2x 3s 4s 3s"),
		line("k", "1x", "2x 3s 2x"),
		line("k", "1s 2s", "1x 1x"),
		{Key: "k", Holders: []api.Hold{{Owner: 1, Mode: 0}}}, // a mode that there isn't
		{Key: "k", Holders: []api.Hold{{Owner: 1, Mode: 3}}},
		{Key: "k", Holders: []api.Hold{{Owner: 1, Mode: -1}}},
		{Key: "k", Holders: []api.Hold{{Owner: 1, Mode: huge}}},
		{Key: "k", Holders: []api.Hold{{Owner: 1, Mode: api.Shared}, {Owner: 2, Mode: 0}}},
		{Key: "k", Holders: []api.Hold{{Owner: 1, Mode: 3}, {Owner: 2, Mode: api.Shared}}},
		{Key: "k", Holders: who("1x"), Queue: []api.Hold{{Owner: 2, Mode: 0}}},
		{Key: "k", Holders: who("1x"), Queue: []api.Hold{{Owner: 2, Mode: 3}}},
		{Key: "k", Holders: who("1x"), Queue: []api.Hold{{Owner: 2, Mode: least}}},
		{Key: "k", Holders: who("1s"), Queue: []api.Hold{{Owner: 2, Mode: api.Sole}, {Owner: 3, Mode: -2}}},
		{Key: "k", Holders: who("1s 2s"), Queue: []api.Hold{{Owner: 1, Mode: 3}}},
		line("k", "1s 2s", "1s"), // waits for Shared that holds the key
		line("k", "1s 2s", "1x 2s"),
		line("k", "1s 2s", "3x 1s"),
		line("k", "1x", "1s"),
		line("k", "1x", "2x 1s"),
		line("k", "1x", "1x"), // waits for what it holds
		line("k", "1x", "2x 1x"),
		line("k", "1x", "2s 1x"),
		line("k", "1s 2s", "3x 1x"), // an upgrade behind one that isn't
		line("k", "1s 2s", "1x 3x 2x"),
		line("k", "1s 2s", "1x 3s 2x"),
		line("k", "1s", "2x 1x"),
		line("k", "", "1s"), // the first of a queue may be let in
		line("k", "", "1x"),
		line("k", "", "1x 2s"),
		line("k", "1s", "2s"),
		line("k", "1s 2s", "3s"),
		line("k", "1s 2s", "3s 4x"),
		line("k", "1s", "1x"),
		line("k", "1s", "1x 2x"),
	} {
		mustRefuse(t, bad)
		mustRefuse(t, line("a", "1s", ""), bad)
		mustRefuse(t, bad, line("z", "1x", "2s"))
		mustRefuse(t, line("a", "1s", ""), line("b", "1s", "2x"), bad, line("z", "1x", "2s"))
	}
}

// P12.1: From of keys that don't rise.
func TestFromKeysThatDontRise(t *testing.T) {
	for _, keys := range [][]string{{"k", "k"}, {"b", "a"}, {"", ""}, {"a", ""}, {"a", "Z"}, {"9", "10"}, {"aa", "a"}, {"\xff", "\x80"}, {"a", "b", "b"}, {"a", "c", "b"}, {"b", "a", "c"}, {"a", "b", "c", "a"}} {
		var lines []api.Line
		for i, key := range keys {
			lines = append(lines, line(key, fmt.Sprint(i, "s"), ""))
		}
		mustRefuse(t, lines...)
	}
}

// lists are all rows of some owners below n, each once at most or more often, in both modes.
func lists(n int) [][]api.Hold {
	all := [][]api.Hold{nil}
	for at := 0; at < len(all); at++ {
		if len(all[at]) == n {
			continue
		}
		for owner := range n {
			for _, m := range []int{api.Shared, api.Sole} {
				all = append(all, append(slices.Clone(all[at]), api.Hold{Owner: owner, Mode: m}))
			}
		}
	}
	return all
}

// P12.1: of all lines of three owners just those make a table that Ask and Leave can make.
func TestFromAllLines(t *testing.T) {
	const three = 3
	can := map[string]int{}
	allLines(three, func(_ []act, lines []api.Line) { can[told(lines)] = 1 })
	delete(can, "") // no line at all
	made := 0
	for _, holders := range lists(three) {
		for _, queue := range lists(three) {
			l := api.Line{Key: "k", Holders: holders, Queue: queue}
			if can[told([]api.Line{l})] == 0 {
				mustRefuse(t, l)
				continue
			}
			made++
			mustMake(t, l)
		}
	}
	if made != len(can) {
		t.Errorf("%d lines were made, not %d", made, len(can))
	}
}

// P12.1: of each line that may be, with one owner or mode that may not, nothing is made.
func TestFromOneNumberThatMayNotBe(t *testing.T) {
	allLines(3, func(_ []act, lines []api.Line) {
		for i := range lines {
			spoil(t, lines, lines[i].Holders)
			spoil(t, lines, lines[i].Queue)
		}
	})
}

func spoil(t *testing.T, lines []api.Line, l []api.Hold) {
	t.Helper()
	for i, was := range l {
		for _, wrong := range []api.Hold{{Owner: -1, Mode: was.Mode}, {Owner: math.MinInt, Mode: was.Mode}, {Owner: was.Owner, Mode: 0}, {Owner: was.Owner, Mode: 3}, {Owner: was.Owner, Mode: -1}} {
			l[i] = wrong
			mustRefuse(t, lines...)
		}
		l[i] = was
	}
}

// P12.1: a table that is made of any table's lines tells the same, and goes on the same, by each act.
func TestFromGoesOn(t *testing.T) {
	allLines(3, func(row []act, lines []api.Line) {
		for _, a := range allActs(3) {
			_, h := replayed(row)
			x := mustMake(t, lines...)
			where := fmt.Sprintf("From(%s), behind it %v", told(lines), a)
			both(t, where, x, h, a)
			mustHave(t, where, x, h.lines()...)
		}
	})
}

// P12.1: what was handed in may be changed, and no table changes; nor does a table change it.
func TestFromOwnMemory(t *testing.T) {
	first, want := some()
	in := first.Lines()
	x := mustMake(t, in...)
	for i := range in {
		in[i].Key = "changed"
		fill(in[i].Holders, api.Hold{Owner: 77, Mode: 7})
		fill(in[i].Queue, api.Hold{Owner: 77, Mode: 7})
	}
	fill(in, line("zz", "1s", ""))
	mustHave(t, "what was handed in is changed", x, want...)

	in = make([]api.Line, 0, 9)
	for _, l := range want { // with room behind each list
		in = append(in, api.Line{Key: l.Key, Holders: append(make([]api.Hold, 0, 9), l.Holders...), Queue: append(make([]api.Hold, 0, 9), l.Queue...)})
	}
	x = mustMake(t, in...)
	y := mustMake(t, in...)
	askAll(x, "c", "0s 6s")
	askAll(x, "a", "7x")
	askAll(x, "0", "7x 6s")
	for _, owner := range []int{2, 4, 1, 3} {
		x.Leave(owner)
	}
	if !alike(in, want) {
		t.Errorf("what was handed in became %s", told(in))
	}
	for i := range in {
		if more := in[i].Holders[:9]; !slices.Equal(more[len(want[i].Holders):], make([]api.Hold, 9-len(want[i].Holders))) {
			t.Errorf("behind the holders that were handed in stands %v", more)
		}
	}
	mustHave(t, "another one of the same lines", y, want...)
	for owner := range 10 {
		x.Leave(owner)
	}
	if !alike(in, want) {
		t.Errorf("what was handed in became %s", told(in))
	}
	mustHave(t, "all left", x)
}

// P12.1: From leaves the lines as they are, though it refuses them.
func TestFromChangesNothing(t *testing.T) {
	lines := []api.Line{line("b", "2s 1s", "4x 3x"), line("a", "1x", "2s 2s")}
	was := copied(lines)
	mustRefuse(t, lines...)
	if !alike(lines, was) {
		t.Errorf("From made %s of %s", told(lines), told(was))
	}
}
