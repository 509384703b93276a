package locks_test

import (
	"fmt"
	"slices"
	"testing"

	"kissinggate/api"
	"kissinggate/locks"
)

// drawing draws numbers below n, the same ones of each seed.
func drawing(x uint32) func(n int) int {
	x = x*2654435761 + 97
	return func(n int) int {
		x = x*1664525 + 1013904223
		return int(x>>12) % n
	}
}

// shuffled are the numbers below n in some order.
func shuffled(draw func(n int) int, n int) []int {
	l := make([]int, n)
	for i := range l {
		j := draw(i + 1)
		l[i], l[j] = l[j], i
	}
	return l
}

// act is an Ask, or, without a mode, a Leave.
type act struct {
	owner int
	key   string
	mode  int
}

func (a act) String() string {
	if a.mode == leaves {
		return fmt.Sprintf("Leave(%d)", a.owner)
	}
	return fmt.Sprintf("Ask(%d, %q, %d)", a.owner, a.key, a.mode)
}

const leaves = -99

// both does an act to a table, and by hand: they must answer alike.
func both(t *testing.T, where string, x *locks.Table, h *hand, a act) {
	t.Helper()
	if a.mode == leaves {
		if got, want := x.Leave(a.owner), h.leave(a.owner); !slices.Equal(got, want) {
			t.Fatalf("%s: %v lets in %v, not %v", where, a, got, want)
		}
	} else if got, want := x.Ask(a.owner, a.key, a.mode), h.ask(a.owner, a.key, a.mode); got != want {
		t.Fatalf("%s: %v answers %d, not %d", where, a, got, want)
	}
}

// allActs are those of so many owners at one key.
func allActs(owners int) []act {
	var l []act
	for owner := range owners {
		l = append(l, act{owner, "k", api.Shared}, act{owner, "k", api.Sole}, act{owner, "", leaves})
	}
	return l
}

// replayed is a table, and the same by hand, behind a row of acts.
func replayed(row []act) (*locks.Table, *hand) {
	x, h := locks.New(), byHand()
	for _, a := range row {
		if a.mode == leaves {
			x.Leave(a.owner)
			h.leave(a.owner)
		} else {
			x.Ask(a.owner, a.key, a.mode)
			h.ask(a.owner, a.key, a.mode)
		}
	}
	return x, h
}

// allLines goes to all that a key's line may become by so many owners, by a shortest row of acts each.
func allLines(owners int, visit func(row []act, lines []api.Line)) {
	seen := map[string]int{}
	rows := [][]act{nil}
	for len(rows) > 0 {
		row := rows[0]
		rows = rows[1:]
		_, h := replayed(row)
		name := told(h.lines())
		if seen[name]++; seen[name] > 1 {
			continue
		}
		visit(row, h.lines())
		for _, a := range allActs(owners) {
			rows = append(rows, append(slices.Clone(row), a))
		}
	}
}

// P12.1: each act behind each line that four owners may make of a key answers as by hand.
func TestEachActBehindEachLine(t *testing.T) {
	const four = 4
	n := 0
	allLines(four, func(row []act, lines []api.Line) {
		n++
		x, _ := replayed(row)
		mustHave(t, fmt.Sprint(row), x, lines...)
		for _, a := range allActs(four) {
			x, h := replayed(row)
			where := told(lines)
			both(t, where, x, h, a)
			mustHave(t, fmt.Sprintf("%s behind it %v", where, a), x, h.lines()...)
		}
	})
	if n < 400 {
		t.Errorf("%d lines: too few to tell anything", n)
	}
}

// anyAct draws an act: few owners and keys, so that they meet.
func anyAct(draw func(n int) int, owners, keys, leave int) act {
	a := act{draw(owners), []string{"", "b", "k", "kk", longest}[draw(keys)], 1 + draw(2)}
	if draw(100) < leave {
		a.mode = leaves
	}
	if draw(30) == 0 { // what may not be
		switch draw(4) {
		case 0:
			a.owner = -a.owner - 1
		case 1:
			a.key = tooLong
		case 2:
			a.mode = 3 * draw(2)
		case 3:
			a.owner += owners
		}
	}
	return a
}

// P12.1: any rows of acts at many keys answer as by hand; a table that is made of another one's lines goes on as that one.
func TestAnyRows(t *testing.T) {
	for seed := range 60 {
		draw := drawing(uint32(seed))
		owners, keys, leave := 2+draw(6), 1+draw(5), 4+draw(40)
		x, h := locks.New(), byHand()
		for i := range 150 {
			a := anyAct(draw, owners, keys, leave)
			where := fmt.Sprintf("%s behind it %v", told(x.Lines()), a)
			both(t, where, x, h, a)
			mustHave(t, where, x, h.lines()...)
			if i%10 != 9 {
				continue
			}
			again, why := locks.From(x.Lines())
			if why != api.OK {
				t.Fatalf("From(%s) answers %d", told(x.Lines()), why)
			}
			x = again
		}
	}
}

// witness watches a table by what it tells, without knowing how it should go on.
type witness struct {
	t     *testing.T
	x     *locks.Table
	clock int
	since map[spot]int // when one began to wait
}

// spot is one at a key.
type spot struct {
	owner int
	key   string
}

// do does an act, and looks at each key ahead of it and behind it.
func (w *witness) do(a act, keys []string, owners int) {
	w.t.Helper()
	w.clock++
	where := fmt.Sprintf("%s behind it %v", told(w.x.Lines()), a)
	ahead := map[string]api.Line{}
	for _, key := range keys {
		ahead[key] = api.Line{Key: key, Holders: w.x.Holders(key), Queue: w.x.Queue(key)}
	}
	if a.mode == leaves {
		w.x.Leave(a.owner)
	} else {
		w.x.Ask(a.owner, a.key, a.mode)
	}
	waits := map[int]int{}
	for _, key := range keys {
		w.seeHolders(where, w.x.Holders(key))
		w.seeWhoCameIn(where, ahead[key])
		w.seeOrder(where, ahead[key])
		for _, h := range w.x.Queue(key) {
			waits[h.Owner]++
			if me := (spot{h.Owner, key}); w.since[me] == 0 {
				w.since[me] = w.clock
			}
		}
	}
	for owner := range owners {
		by := w.x.Blockers(owner)
		if (len(by) > 0) != (waits[owner] > 0) || slices.Contains(by, owner) {
			w.t.Fatalf("%s: %d waits for %d keys, and is blocked by %v", where, owner, waits[owner], by)
		}
	}
}

// seeHolders: who holds a key Sole holds it alone.
func (w *witness) seeHolders(where string, holders []api.Hold) {
	for _, h := range holders {
		if h.Mode != api.Shared && len(holders) > 1 {
			w.t.Fatalf("%s: the holders of one key are %v", where, holders)
		}
	}
}

// seeWhoCameIn: it came ahead of none that was waiting longer, if one of them wants Sole, but an upgrade.
func (w *witness) seeWhoCameIn(where string, ahead api.Line) {
	for _, h := range w.x.Holders(ahead.Key) {
		held, _ := in(ahead.Holders, h.Owner)
		if held == h.Mode {
			continue
		}
		me := spot{h.Owner, ahead.Key}
		came := w.since[me]
		delete(w.since, me)
		for _, other := range ahead.Queue {
			waited := w.since[spot{other.Owner, ahead.Key}]
			longer := waited > 0 && (came == 0 || waited < came)
			still := w.x.Waits(other.Owner, ahead.Key) > 0
			if longer && still && held != api.Shared && max(other.Mode, h.Mode) == api.Sole {
				w.t.Fatalf("%s: %d came in ahead of %d", where, h.Owner, other.Owner)
			}
		}
	}
	for _, h := range ahead.Queue {
		if w.x.Waits(h.Owner, ahead.Key) == 0 {
			delete(w.since, spot{h.Owner, ahead.Key})
		}
	}
}

// seeOrder: of two that were in a queue, of which one wants Sole, the first one comes in first; of two that stay the first one stands ahead.
func (w *witness) seeOrder(where string, ahead api.Line) {
	for i, first := range ahead.Queue {
		for _, second := range ahead.Queue[i+1:] {
			firstWaits := w.x.Waits(first.Owner, ahead.Key) > 0
			secondIn := w.x.Holds(second.Owner, ahead.Key) == second.Mode
			if firstWaits && secondIn && max(first.Mode, second.Mode) == api.Sole {
				w.t.Fatalf("%s: %d came in ahead of %d", where, second.Owner, first.Owner)
			}
			queue := w.x.Queue(ahead.Key)
			_, at := in(queue, first.Owner)
			if _, behind := in(queue, second.Owner); behind >= 0 && behind < at {
				w.t.Fatalf("%s: %d stands ahead of %d", where, second.Owner, first.Owner)
			}
		}
	}
}

// P12.2, P12.3: any rows of Ask and Leave: who holds Sole holds alone, who waits is blocked, and nobody comes in ahead of who waits longer, if one of them wants Sole, but an upgrade.
func TestWhoComesIn(t *testing.T) {
	keys := []string{"", "b", "k", "kk", longest}
	for seed := range 150 {
		draw := drawing(uint32(seed + 900))
		owners, n, leave := 2+draw(7), 1+draw(len(keys)), 3+draw(40)
		w := &witness{t: t, x: locks.New(), since: map[spot]int{}}
		for range 300 {
			w.do(anyAct(draw, owners, n, leave), keys, 2*owners)
		}
	}
}

// P12.2, P12.3: the same, of each row of five acts of three owners at one key.
func TestWhoComesInOfAllShortRows(t *testing.T) {
	acts := allActs(3)
	const long = 5
	rows := 1
	for range long {
		rows *= len(acts)
	}
	for row := range rows {
		w := &witness{t: t, x: locks.New(), since: map[spot]int{}}
		for left, i := row, 0; i < long; i++ {
			w.do(acts[left%len(acts)], []string{"k"}, 3)
			left /= len(acts)
		}
	}
}

// P12.2, P12.3: many owners at one key: all come in, one behind the other, and those that share at once.
func TestAllComeIn(t *testing.T) {
	const many = 300
	x := locks.New()
	askAll(x, "k", "0x")
	var wants []api.Hold
	for owner := 1; owner <= many; owner++ {
		h := api.Hold{Owner: (owner * 78) % (many + 1), Mode: api.Shared}
		if owner%5 == 0 {
			h.Mode = api.Sole
		}
		wants = append(wants, h)
		if why := x.Ask(h.Owner, "k", h.Mode); why != api.ErrWait {
			t.Fatalf("Ask of %d answers %d", h.Owner, why)
		}
	}
	if got := x.Queue("k"); !slices.Equal(got, wants) {
		t.Fatalf("the queue is %v, not %v", got, wants)
	}
	for len(wants) > 0 {
		n := 1
		for wants[0].Mode == api.Shared && n < len(wants) && wants[n].Mode == api.Shared {
			n++
		}
		next := map[int]int{}
		for _, h := range wants[:n] {
			next[h.Owner] = h.Mode
		}
		var letIn []int
		for _, h := range x.Holders("k") {
			letIn = append(letIn, x.Leave(h.Owner)...)
		}
		if !slices.Equal(letIn, rising(next)) {
			t.Fatalf("%v were let in, not %v", letIn, rising(next))
		}
		wants = wants[n:]
		if got := x.Queue("k"); !slices.Equal(got, wants) {
			t.Fatalf("the queue is %v, not %v", got, wants)
		}
	}
}
