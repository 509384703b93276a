package locks_test

import (
	"fmt"
	"math"
	"slices"
	"testing"

	"kissinggate/api"
	"kissinggate/locks"
)

// P12.1: the chapter's example.
func TestTheExample(t *testing.T) {
	x := locks.New()
	mustHave(t, "a new one", x)
	mustAsk(t, x, 1, "k", api.Shared, api.OK, line("k", "1s", ""))
	mustAsk(t, x, 2, "k", api.Sole, api.ErrWait, line("k", "1s", "2x"))
	mustAsk(t, x, 3, "k", api.Shared, api.ErrWait, line("k", "1s", "2x 3s"))
}

// P12.1: Shared beside Shared, Sole alone; the holders are told by owner, the queue in order.
func TestAsk(t *testing.T) {
	x := locks.New()
	mustAsk(t, x, 5, "k", api.Shared, api.OK, line("k", "5s", ""))
	mustAsk(t, x, 2, "k", api.Shared, api.OK, line("k", "2s 5s", ""))
	mustAsk(t, x, 9, "k", api.Shared, api.OK, line("k", "2s 5s 9s", ""))
	mustAsk(t, x, 0, "k", api.Shared, api.OK, line("k", "0s 2s 5s 9s", ""))
	mustAsk(t, x, 7, "k", api.Sole, api.ErrWait, line("k", "0s 2s 5s 9s", "7x"))
	mustAsk(t, x, 3, "k", api.Sole, api.ErrWait, line("k", "0s 2s 5s 9s", "7x 3x"))
	mustAsk(t, x, 8, "k", api.Shared, api.ErrWait, line("k", "0s 2s 5s 9s", "7x 3x 8s"))
	mustAsk(t, x, 1, "k", api.Shared, api.ErrWait, line("k", "0s 2s 5s 9s", "7x 3x 8s 1s"))

	x = locks.New()
	mustAsk(t, x, 4, "k", api.Sole, api.OK, line("k", "4x", ""))
	mustAsk(t, x, 6, "k", api.Shared, api.ErrWait, line("k", "4x", "6s"))
	mustAsk(t, x, 0, "k", api.Shared, api.ErrWait, line("k", "4x", "6s 0s"))
	mustAsk(t, x, math.MaxInt, "k", api.Sole, api.ErrWait, api.Line{Key: "k", Holders: who("4x"), Queue: append(who("6s 0s"), api.Hold{Owner: math.MaxInt, Mode: api.Sole})})
}

// P12.1: who asks again for what it holds, or waits for, changes nothing, whichever mode it asks for.
func TestAskAgain(t *testing.T) {
	for _, c := range []struct {
		asked  string
		owner  int
		mode   int
		want   api.Errno
		holds  string
		queued string
	}{
		{"1s", 1, api.Shared, api.OK, "1s", ""},
		{"1x", 1, api.Sole, api.OK, "1x", ""},
		{"1x", 1, api.Shared, api.OK, "1x", ""},
		{"1s 2s", 2, api.Shared, api.OK, "1s 2s", ""},
		{"1s 2x", 1, api.Shared, api.OK, "1s", "2x"},
		{"1x 2s 3x", 1, api.Shared, api.OK, "1x", "2s 3x"},
		{"1x 2s 3x", 1, api.Sole, api.OK, "1x", "2s 3x"},
		{"1x 2s", 2, api.Shared, api.ErrWait, "1x", "2s"},
		{"1x 2x", 2, api.Sole, api.ErrWait, "1x", "2x"},
		{"1x 2s", 2, api.Sole, api.ErrWait, "1x", "2s"}, // it waits for Shared, and goes on to
		{"1x 2x", 2, api.Shared, api.ErrWait, "1x", "2x"},
		{"1s 2x", 2, api.Shared, api.ErrWait, "1s", "2x"}, // it might be beside 1, if it didn't wait
		{"1s 2x 3s", 3, api.Sole, api.ErrWait, "1s", "2x 3s"},
		{"1s 2x 3s", 2, api.Shared, api.ErrWait, "1s", "2x 3s"},
		{"1s 2s 1x", 1, api.Sole, api.ErrWait, "1s 2s", "1x"},
		{"1s 2s 1x", 1, api.Shared, api.OK, "1s 2s", "1x"}, // it holds that, though it waits for more
		{"1s 2s 1x", 2, api.Shared, api.OK, "1s 2s", "1x"},
		{"1s 2s 1x 2x", 2, api.Shared, api.OK, "1s 2s", "1x 2x"},
		{"1s 2s 1x 2x", 1, api.Sole, api.ErrWait, "1s 2s", "1x 2x"},
		{"1s 2s 1x 2x", 2, api.Sole, api.ErrWait, "1s 2s", "1x 2x"},
	} {
		x := asked("k", c.asked)
		for range 3 {
			mustAsk(t, x, c.owner, "k", c.mode, c.want, line("k", c.holds, c.queued))
		}
	}
}

// P12.1: an upgrade alone is let in at once, though others wait; beside other holders it waits, behind upgrades and ahead of all others.
func TestUpgrade(t *testing.T) {
	mustAsk(t, asked("k", "1s"), 1, "k", api.Sole, api.OK, line("k", "1x", ""))
	mustAsk(t, asked("k", "1s 2x"), 1, "k", api.Sole, api.OK, line("k", "1x", "2x"))
	mustAsk(t, asked("k", "1s 2x 3s 4x"), 1, "k", api.Sole, api.OK, line("k", "1x", "2x 3s 4x"))
	mustAsk(t, asked("k", "1s 2s"), 1, "k", api.Sole, api.ErrWait, line("k", "1s 2s", "1x"))
	mustAsk(t, asked("k", "1s 2s"), 2, "k", api.Sole, api.ErrWait, line("k", "1s 2s", "2x"))
	mustAsk(t, asked("k", "1s 2s 3x"), 2, "k", api.Sole, api.ErrWait, line("k", "1s 2s", "2x 3x"))
	mustAsk(t, asked("k", "1s 2s 3x 4s"), 1, "k", api.Sole, api.ErrWait, line("k", "1s 2s", "1x 3x 4s"))

	x := asked("k", "1s 2s 3s 4s 5x 6s")
	mustAsk(t, x, 3, "k", api.Sole, api.ErrWait, line("k", "1s 2s 3s 4s", "3x 5x 6s"))
	mustAsk(t, x, 1, "k", api.Sole, api.ErrWait, line("k", "1s 2s 3s 4s", "3x 1x 5x 6s"))
	mustAsk(t, x, 7, "k", api.Sole, api.ErrWait, line("k", "1s 2s 3s 4s", "3x 1x 5x 6s 7x"))
	mustAsk(t, x, 4, "k", api.Sole, api.ErrWait, line("k", "1s 2s 3s 4s", "3x 1x 4x 5x 6s 7x"))
	mustLeave(t, x, 2, nil, line("k", "1s 3s 4s", "3x 1x 4x 5x 6s 7x"))
	mustLeave(t, x, 3, nil, line("k", "1s 4s", "1x 4x 5x 6s 7x"))
	mustLeave(t, x, 4, []int{1}, line("k", "1x", "5x 6s 7x"))
	mustLeave(t, x, 1, []int{5}, line("k", "5x", "6s 7x"))
	mustLeave(t, x, 5, []int{6}, line("k", "6s", "7x"))
	mustAsk(t, x, 6, "k", api.Sole, api.OK, line("k", "6x", "7x"))
}

// P12.1: no table, an owner below 0, a key that is too long, no such mode: nothing changes, and no line comes.
func TestAskWhatMayNotBe(t *testing.T) {
	for _, c := range []struct {
		owner int
		key   string
		mode  int
	}{
		{-1, "k", api.Shared},
		{-1, "new", api.Sole},
		{-2, "k", api.Sole},
		{math.MinInt, "k", api.Shared},
		{1, tooLong, api.Shared},
		{1, tooLong, api.Sole},
		{1, longest + longest, api.Sole},
		{1, "k", 0},
		{1, "k", -1},
		{1, "k", 3},
		{9, "new", 0},
		{9, "new", 3},
		{2, "k", 4},
		{2, "k", math.MinInt},
		{2, "k", math.MaxInt},
		{-1, tooLong, 0},
	} {
		mustAsk(t, locks.New(), c.owner, c.key, c.mode, api.ErrArg)
		mustAsk(t, asked("k", "1x 2s"), c.owner, c.key, c.mode, api.ErrArg, line("k", "1x", "2s"))
		mustAsk(t, asked("k", "1s 2s 2x 3x"), c.owner, c.key, c.mode, api.ErrArg, line("k", "1s 2s", "2x 3x"))
	}
}

// P12.1: a key may have no byte, and MaxKey of them, of any kind; keys are told rising, whichever was asked for first.
func TestKeys(t *testing.T) {
	keys := []string{"", "\x00", "\x00\x00", "10", "9", "A", "a", "a\x00", "aa", "b", longest[1:], longest, "mn", "\x7f", "\x80", "\xc3\xa9", "\xff", "\xff\xff"}
	draw := drawing(3)
	for range 60 {
		x := locks.New()
		var lines []api.Line
		for _, i := range shuffled(draw, len(keys)) {
			mustAskOK(t, x, i, keys[i], api.Sole)
			lines = append(lines, line(keys[i], fmt.Sprint(i, "x"), ""))
			slices.SortFunc(lines, func(a, b api.Line) int { return slices.Compare([]byte(a.Key), []byte(b.Key)) })
			mustHave(t, "keys in any order", x, lines...)
		}
		for _, i := range shuffled(draw, len(keys)) {
			lines = slices.DeleteFunc(lines, func(l api.Line) bool { return l.Key == keys[i] })
			mustLeave(t, x, i, nil, lines...)
		}
	}
}

func mustAskOK(t *testing.T, x *locks.Table, owner int, key string, m int) {
	t.Helper()
	if why := x.Ask(owner, key, m); why != api.OK {
		t.Fatalf("Ask(%d, %q, %d) answers %d", owner, key, m, why)
	}
}

// P12.1: who leaves holds nothing, and waits for nothing; those are let in that may be, as many as may be.
func TestLeave(t *testing.T) {
	for _, c := range []struct {
		asked string
		owner int
		in    []int
		lines []api.Line
	}{
		{"", 1, nil, nil},
		{"1s", 2, nil, []api.Line{line("k", "1s", "")}},
		{"1s", -1, nil, []api.Line{line("k", "1s", "")}},
		{"1x 2s", 3, nil, []api.Line{line("k", "1x", "2s")}},
		{"1x 2s", math.MinInt, nil, []api.Line{line("k", "1x", "2s")}},
		{"1x 2s", math.MaxInt, nil, []api.Line{line("k", "1x", "2s")}},
		{"1s", 1, nil, nil},
		{"1x", 1, nil, nil},
		{"1s 2s", 1, nil, []api.Line{line("k", "2s", "")}},
		{"1x 2s", 1, []int{2}, []api.Line{line("k", "2s", "")}},
		{"1x 2x", 1, []int{2}, []api.Line{line("k", "2x", "")}},
		{"1x 2x 3x", 1, []int{2}, []api.Line{line("k", "2x", "3x")}},
		{"1x 2x 3s", 1, []int{2}, []api.Line{line("k", "2x", "3s")}},
		{"1x 9s 3s 5s", 1, []int{3, 5, 9}, []api.Line{line("k", "3s 5s 9s", "")}},
		{"1x 9s 3s 5x 4s", 1, []int{3, 9}, []api.Line{line("k", "3s 9s", "5x 4s")}},
		{"5s 2x", 5, []int{2}, []api.Line{line("k", "2x", "")}},
		{"1s 2s 3x", 1, nil, []api.Line{line("k", "2s", "3x")}},
		{"1s 2x 3s 4s 5x 6s", 2, []int{3, 4}, []api.Line{line("k", "1s 3s 4s", "5x 6s")}}, // who only waited leaves
		{"1s 2x 3x 4s", 2, nil, []api.Line{line("k", "1s", "3x 4s")}},
		{"1s 2x 3x 4s", 3, nil, []api.Line{line("k", "1s", "2x 4s")}},
		{"1s 2x 3x 4s", 4, nil, []api.Line{line("k", "1s", "2x 3x")}},
		{"1x 2s 3s", 2, nil, []api.Line{line("k", "1x", "3s")}},
		{"1s 2s 1x", 2, []int{1}, []api.Line{line("k", "1x", "")}}, // an upgrade is the only holder now
		{"1s 2s 1x", 1, nil, []api.Line{line("k", "2s", "")}},      // and this one leaves both
		{"1s 2s 2x 3s", 1, []int{2}, []api.Line{line("k", "2x", "3s")}},
		{"1s 2s 2x 3s", 2, []int{3}, []api.Line{line("k", "1s 3s", "")}},
		{"1s 2s 2x 3s 4x", 2, []int{3}, []api.Line{line("k", "1s 3s", "4x")}},
		{"1s 2s 3s 2x", 1, nil, []api.Line{line("k", "2s 3s", "2x")}},
		{"1s 2s 1x 2x", 1, []int{2}, []api.Line{line("k", "2x", "")}},
		{"1s 2s 1x 2x 3s", 2, []int{1}, []api.Line{line("k", "1x", "3s")}},
		{"1s 2s 3s 1x 2x", 1, nil, []api.Line{line("k", "2s 3s", "2x")}},
	} {
		x := asked("k", c.asked)
		mustLeave(t, x, c.owner, c.in, c.lines...)
		mustLeave(t, x, c.owner, nil, c.lines...)
	}
}

// P12.1: who leaves leaves all keys, and at each those are let in that may be, told once.
func TestLeaveOfManyKeys(t *testing.T) {
	x := locks.New()
	askAll(x, "a", "1x 9s 4s")
	askAll(x, "b", "1s 4x 1s")
	askAll(x, "c", "9s 1x 4s")
	askAll(x, "d", "1x")
	askAll(x, "e", "7x 1s 2x")
	askAll(x, "f", "1s 3s 3x 5s")
	askAll(x, "g", "6x 9s")
	mustHave(t, "ahead", x, line("a", "1x", "9s 4s"), line("b", "1s", "4x"), line("c", "9s", "1x 4s"), line("d", "1x", ""), line("e", "7x", "1s 2x"), line("f", "1s 3s", "3x 5s"), line("g", "6x", "9s"))
	mustLeave(t, x, 1, []int{3, 4, 9}, line("a", "4s 9s", ""), line("b", "4x", ""), line("c", "4s 9s", ""), line("e", "7x", "2x"), line("f", "3x", "5s"), line("g", "6x", "9s"))
	mustLeave(t, x, 6, []int{9}, line("a", "4s 9s", ""), line("b", "4x", ""), line("c", "4s 9s", ""), line("e", "7x", "2x"), line("f", "3x", "5s"), line("g", "9s", ""))
	mustLeave(t, x, 4, nil, line("a", "9s", ""), line("c", "9s", ""), line("e", "7x", "2x"), line("f", "3x", "5s"), line("g", "9s", ""))
	mustLeave(t, x, 9, nil, line("e", "7x", "2x"), line("f", "3x", "5s"))
	mustLeave(t, x, 3, []int{5}, line("e", "7x", "2x"), line("f", "5s", ""))
	mustLeave(t, x, 2, nil, line("e", "7x", ""), line("f", "5s", ""))
	mustLeave(t, x, 5, nil, line("e", "7x", ""))
	mustLeave(t, x, 7, nil)
	mustAsk(t, x, 1, "e", api.Shared, api.OK, line("e", "1s", ""))
}

// P12.1: by whom one is blocked, by hand.
func TestBlockers(t *testing.T) {
	for _, c := range []struct {
		asked string
		want  map[int][]int
	}{
		{"1s 2s", map[int][]int{1: nil, 2: nil, 3: nil}},
		{"1x 2s", map[int][]int{1: nil, 2: {1}}},
		{"1x 2s 3s", map[int][]int{2: {1}, 3: {1}}}, // Shared ahead of Shared doesn't block
		{"1x 2x 3s 4x", map[int][]int{2: {1}, 3: {1, 2}, 4: {1, 2, 3}}},
		{"9s 1s 2x 3s", map[int][]int{1: nil, 9: nil, 2: {1, 9}, 3: {2}}},
		{"9s 8s 7x 6s 5s 4x", map[int][]int{7: {8, 9}, 6: {7}, 5: {7}, 4: {5, 6, 7, 8, 9}}},
		{"1s 2s 1x", map[int][]int{1: {2}, 2: nil}},
		{"1s 2s 3x 2x 4s", map[int][]int{1: nil, 2: {1}, 3: {1, 2}, 4: {2, 3}}}, // the upgrade stands ahead of 3, and of 4
		{"1s 2s 2x 4s", map[int][]int{2: {1}, 4: {2}}},
		{"1s 2s 3s 2x 1x", map[int][]int{1: {2, 3}, 2: {1, 3}, 3: nil}},
	} {
		x := asked("k", c.asked)
		for owner, want := range c.want {
			if got := x.Blockers(owner); !slices.Equal(got, want) {
				t.Errorf("%s: Blockers(%d) answers %v, not %v", c.asked, owner, got, want)
			}
		}
	}

	x := asked("a", "5x 3s 1x")
	askAll(x, "b", "4s 5s 1x 2s")
	askAll(x, "c", "6x 2x")
	for owner, want := range map[int][]int{1: {3, 4, 5}, 2: {1, 6}, 3: {5}, 4: nil, 5: nil, 6: nil} {
		if got := x.Blockers(owner); !slices.Equal(got, want) {
			t.Errorf("of three keys: Blockers(%d) answers %v, not %v", owner, got, want)
		}
	}
}

// P12.1: a nil table has nothing, and takes nothing.
func TestNilTable(t *testing.T) {
	var none *locks.Table
	for _, owner := range []int{math.MinInt, -1, 0, 1, math.MaxInt} {
		for _, m := range []int{-1, 0, api.Shared, api.Sole, 3} {
			for _, key := range []string{"", "k", longest, tooLong} {
				mustAsk(t, none, owner, key, m, api.ErrArg)
			}
		}
		mustLeave(t, none, owner, nil)
	}
	mustHave(t, "a nil table", none)
}

// P12.1: two tables have nothing to do with each other.
func TestTwoTables(t *testing.T) {
	x, y := locks.New(), locks.New()
	mustAsk(t, x, 1, "k", api.Sole, api.OK, line("k", "1x", ""))
	mustAsk(t, y, 2, "k", api.Sole, api.OK, line("k", "2x", ""))
	mustAsk(t, y, 1, "k", api.Shared, api.ErrWait, line("k", "2x", "1s"))
	mustLeave(t, x, 1, nil)
	mustHave(t, "the other one", y, line("k", "2x", "1s"))
	mustHave(t, "a new one", locks.New())
}

// some is a table with each kind of line, and its lines.
func some() (*locks.Table, []api.Line) {
	x := asked("a", "1s 2s 4s 2x 3x 5s")
	askAll(x, "b", "2x 1s 4x")
	askAll(x, "c", "5s")
	return x, []api.Line{line("a", "1s 2s 4s", "2x 3x 5s"), line("b", "2x", "1s 4x"), line("c", "5s", "")}
}

// P12.1: what was handed out may be changed, and no table changes, nor anything else that was handed out.
func TestOwnMemory(t *testing.T) {
	x, want := some()
	bad := api.Hold{Owner: 77, Mode: 7}
	for _, l := range [][]api.Line{x.Lines(), copied(want), x.Lines()} {
		for i := range l {
			_ = append(l[i].Holders, bad)
			_ = append(l[i].Queue, bad)
		}
		if !alike(l, want) {
			t.Fatalf("two lists of one answer share memory: %s", told(l))
		}
		for i := range l {
			l[i].Key = "changed"
			fill(l[i].Holders, bad)
			fill(l[i].Queue, bad)
		}
		_ = append(l, line("d", "1s", ""))
		mustHave(t, "Lines changed", x, want...)
	}
	for _, key := range []string{"a", "b", "c", "never"} {
		holders, queue, other := x.Holders(key), x.Queue(key), x.Queue(key)
		was := slices.Clone(other)
		fill(append(holders, bad), bad)
		fill(append(queue, bad), bad)
		mustHave(t, "Holders and Queue changed", x, want...)
		if !slices.Equal(other, was) {
			t.Errorf("two answers share memory: %v", other)
		}
	}
	for owner := range 6 {
		fill(append(x.Blockers(owner), 77), 77)
	}
	fill(append(x.Keys(), "changed"), "changed")
	fill(append(x.Owners(), 77), 77)
	mustHave(t, "Blockers, Keys and Owners changed", x, want...)

	fill(append(x.Leave(2), 77), 77)
	mustHave(t, "Leave's answer changed", x, line("a", "1s 4s", "3x 5s"), line("b", "1s", "4x"), line("c", "5s", ""))
}

func fill[T any](l []T, with T) {
	for i := range l {
		l[i] = with
	}
}

// P12.1: what was handed out stays as it was, whatever the table does then.
func TestAnswersStay(t *testing.T) {
	x, want := some()
	lines, keys, all := x.Lines(), x.Keys(), x.Owners()
	holders, queue, by := x.Holders("a"), x.Queue("a"), x.Blockers(3)
	letIn := x.Leave(2)
	askAll(x, "b", "9s 8x")
	askAll(x, "0", "9s 8x")
	for _, owner := range []int{4, 1, 3, 9, 5, 8} {
		x.Leave(owner)
	}
	mustHave(t, "all left", x)
	askAll(x, "k", "6s 7s 6x 8x")
	if !alike(lines, want) || !slices.Equal(holders, want[0].Holders) || !slices.Equal(queue, want[0].Queue) {
		t.Errorf("what was told became %s, %v, %v", told(lines), holders, queue)
	}
	if !slices.Equal(keys, []string{"a", "b", "c"}) || !slices.Equal(all, []int{1, 2, 3, 4, 5}) || !slices.Equal(by, []int{1, 2, 4}) || !slices.Equal(letIn, []int{1}) {
		t.Errorf("what was told became %v, %v, %v, %v", keys, all, by, letIn)
	}
}
