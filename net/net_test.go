package net_test

import (
	"fmt"
	"math"
	"reflect"
	"slices"
	"testing"

	"kissinggate/api"
	"kissinggate/net"
)

// letter is a thing with a slice in it.
type letter struct {
	to    string
	lines []string
}

func number(i int) int { return 100 + i }

func text(i int) string { return fmt.Sprint("text ", i) }

func letterOf(i int) letter {
	return letter{to: text(i), lines: []string{"first of " + text(i), "last"}}
}

// these are the things of these numbers.
func these[T any](thing func(int) T, numbers ...int) []T {
	var l []T
	for _, i := range numbers {
		l = append(l, thing(i))
	}
	return l
}

// upTo are the numbers 0 to n-1.
func upTo(n int) []int {
	l := make([]int, n)
	for i := range l {
		l[i] = i
	}
	return l
}

// sent is a net to which the things 0 to k-1 were sent.
func sent[T any](t *testing.T, thing func(int) T, k int) *net.Net[T] {
	t.Helper()
	n := net.New[T]()
	for i := range k {
		mustSend(t, n, thing(i), api.OK)
	}
	return n
}

// places are places at which a net of k things has none.
func places(k int) []int {
	return []int{math.MinInt, math.MinInt + 1, -k - 1, -2, -1, k, k + 1, k + 2, api.MaxFlight + k, math.MaxInt - 1, math.MaxInt}
}

// mustHave: these are under way, and no others.
func mustHave[T any](t *testing.T, n *net.Net[T], want []T) {
	t.Helper()
	got := n.All()
	if len(got) != len(want) {
		t.Fatalf("All answers %d things, not %d", len(got), len(want))
	}
	for i := range want {
		if !reflect.DeepEqual(got[i], want[i]) {
			t.Fatalf("All answers at %d: %v, not %v", i, got[i], want[i]) // the others would tell the same
		}
	}
	if n.Len() != len(want) {
		t.Errorf("Len answers %d, not %d", n.Len(), len(want))
	}
}

// mustSend: Send answers so.
func mustSend[T any](t *testing.T, n *net.Net[T], x T, want api.Errno) {
	t.Helper()
	if why := n.Send(x); why != want {
		t.Errorf("Send(%v) answers %d, not %d", x, why, want)
	}
}

// mustTake: Take hands out this one.
func mustTake[T any](t *testing.T, n *net.Net[T], i int, want T) {
	t.Helper()
	if x, why := n.Take(i); why != api.OK || !reflect.DeepEqual(x, want) {
		t.Errorf("Take(%d) answers %v, %d, not %v, %d", i, x, why, want, api.OK)
	}
}

// mustNotTake: Take answers this fault, and nothing beside it.
func mustNotTake[T any](t *testing.T, n *net.Net[T], i int, want api.Errno) {
	t.Helper()
	var none T
	if x, why := n.Take(i); why != want || !reflect.DeepEqual(x, none) {
		t.Errorf("Take(%d) answers %v, %d, not the zero value, %d", i, x, why, want)
	}
}

// mustDouble: Double answers so.
func mustDouble[T any](t *testing.T, n *net.Net[T], i int, want api.Errno) {
	t.Helper()
	if why := n.Double(i); why != want {
		t.Errorf("Double(%d) answers %d, not %d", i, why, want)
	}
}

// all tries each of the things below with a type of its own.
func all[T any](thing func(int) T) func(*testing.T) {
	return func(t *testing.T) {
		t.Run("example", func(t *testing.T) { example(t, thing) })
		t.Run("order", func(t *testing.T) { order(t, thing) })
		t.Run("doubled", func(t *testing.T) { doubled(t, thing) })
		t.Run("clear", func(t *testing.T) { cleared(t, thing) })
		t.Run("none", func(t *testing.T) { noSuchPlace(t, thing) })
		t.Run("full", func(t *testing.T) { full(t, thing) })
		t.Run("nil", func(t *testing.T) { nilNet(t, thing) })
		t.Run("own memory", func(t *testing.T) { ownMemory(t, thing) })
	}
}

// P9.1: the calls answer alike for things of each type.
func TestNumbers(t *testing.T) { all(number)(t) }

func TestTexts(t *testing.T) { all(text)(t) }

func TestLetters(t *testing.T) { all(letterOf)(t) }

func TestMessages(t *testing.T) {
	all(func(i int) api.Message {
		return api.Message{Kind: api.Append, From: i, Index: 7, Entries: []api.Entry{{Term: i, Data: text(i)}}}
	})(t)
}

func TestSlices(t *testing.T) { all(func(i int) []int { return []int{i, -i} })(t) }

func TestArrays(t *testing.T) { all(func(i int) [2]int { return [2]int{i, -i} })(t) }

func TestAnything(t *testing.T) {
	all(func(i int) any {
		if i%2 == 0 {
			return number(i)
		}
		return text(i)
	})(t)
}

// P9.1: a thing may be the zero value of its type, and counts as one.
func TestZeroValues(t *testing.T) {
	n := net.New[int]()
	mustSend(t, n, 0, api.OK)
	mustSend(t, n, 0, api.OK)
	mustHave(t, n, []int{0, 0})
	mustTake(t, n, 0, 0)
	mustDouble(t, n, 0, api.OK)
	mustHave(t, n, []int{0, 0})

	p := net.New[*int]()
	mustSend(t, p, nil, api.OK)
	mustHave(t, p, []*int{nil})
	mustTake(t, p, 0, nil)
	mustHave(t, p, nil)

	e := net.New[struct{}]()
	mustSend(t, e, struct{}{}, api.OK)
	mustDouble(t, e, 0, api.OK)
	mustHave(t, e, make([]struct{}, 2))
	mustNotTake(t, e, 2, api.ErrNone)
}

// P9.1: what a pointer leads to is the thing itself, not one like it.
func TestPointers(t *testing.T) {
	x := number(1)
	n := net.New[*int]()
	mustSend(t, n, &x, api.OK)
	mustDouble(t, n, 0, api.OK)
	for range 2 {
		if p, why := n.Take(0); why != api.OK || p != &x {
			t.Errorf("Take answers %p, %d, not %p", p, why, &x)
		}
	}
}

// example: two are sent, the second one is taken: the first one is left.
func example[T any](t *testing.T, thing func(int) T) {
	n := net.New[T]()
	mustHave(t, n, nil)
	mustSend(t, n, thing(1), api.OK)
	mustHave(t, n, these(thing, 1))
	mustSend(t, n, thing(2), api.OK)
	mustHave(t, n, these(thing, 1, 2))
	mustTake(t, n, 1, thing(2))
	mustHave(t, n, these(thing, 1))
}

// order: what is taken leaves the order of the others as it is.
func order[T any](t *testing.T, thing func(int) T) {
	n := sent(t, thing, 6)
	mustHave(t, n, these(thing, 0, 1, 2, 3, 4, 5))
	mustTake(t, n, 0, thing(0))
	mustHave(t, n, these(thing, 1, 2, 3, 4, 5))
	mustTake(t, n, 2, thing(3))
	mustHave(t, n, these(thing, 1, 2, 4, 5))
	mustTake(t, n, 3, thing(5))
	mustHave(t, n, these(thing, 1, 2, 4))
	mustSend(t, n, thing(0), api.OK)
	mustHave(t, n, these(thing, 1, 2, 4, 0))
	for _, i := range []int{1, 2, 4, 0} {
		mustTake(t, n, 0, thing(i))
	}
	mustHave(t, n, nil)
	mustNotTake(t, n, 0, api.ErrNone)
	mustSend(t, n, thing(7), api.OK)
	mustHave(t, n, these(thing, 7))
}

// doubled: one like it comes behind all, and either may be taken.
func doubled[T any](t *testing.T, thing func(int) T) {
	for at := range 3 {
		had := []int{0, 1, 2}
		n := sent(t, thing, len(had))
		mustDouble(t, n, at, api.OK)
		mustHave(t, n, these(thing, append(had, at)...))
		mustTake(t, n, at, thing(at))
		left := append(slices.Delete([]int{0, 1, 2}, at, at+1), at)
		mustHave(t, n, these(thing, left...))
		mustTake(t, n, 2, thing(at))

		n = sent(t, thing, len(had))
		mustDouble(t, n, at, api.OK)
		mustTake(t, n, len(had), thing(at))
		mustHave(t, n, these(thing, had...))
		mustDouble(t, n, at, api.OK)
		mustDouble(t, n, len(had), api.OK) // the one like it has one like it, too
		mustHave(t, n, these(thing, append(had, at, at)...))
	}
}

// cleared: none is under way, and others may be sent.
func cleared[T any](t *testing.T, thing func(int) T) {
	n := net.New[T]()
	n.Clear()
	mustHave(t, n, nil)
	for _, k := range []int{1, 3, api.MaxFlight} {
		n := sent(t, thing, k)
		n.Clear()
		mustHave(t, n, nil)
		mustNotTake(t, n, 0, api.ErrNone)
		mustDouble(t, n, 0, api.ErrNone)
		n.Clear()
		mustSend(t, n, thing(8), api.OK)
		mustSend(t, n, thing(9), api.OK)
		mustHave(t, n, these(thing, 8, 9))
		mustTake(t, n, 0, thing(8))
		mustHave(t, n, these(thing, 9))
	}
}

// noSuchPlace: at a place at which none is there is none, and nothing changes.
func noSuchPlace[T any](t *testing.T, thing func(int) T) {
	for _, k := range []int{0, 1, 2, 5, api.MaxFlight - 1, api.MaxFlight} {
		n := sent(t, thing, k)
		for _, i := range places(k) {
			mustNotTake(t, n, i, api.ErrNone)
			mustDouble(t, n, i, api.ErrNone) // in a full net, too
		}
		mustHave(t, n, these(thing, upTo(k)...))
	}
}

// full: one more than may be is lost, whether it is sent or doubled; behind a Take there is room for one.
func full[T any](t *testing.T, thing func(int) T) {
	const most = api.MaxFlight
	n := sent(t, thing, most)
	want := these(thing, upTo(most)...)
	mustSend(t, n, thing(most), api.ErrFull)
	for _, i := range []int{0, 1, most / 2, most - 1} {
		mustDouble(t, n, i, api.ErrFull)
	}
	mustHave(t, n, want)

	mustTake(t, n, 3, thing(3))
	mustSend(t, n, thing(most), api.OK)
	mustSend(t, n, thing(most+1), api.ErrFull)
	want = append(slices.Delete(want, 3, 4), thing(most))
	mustHave(t, n, want)

	mustTake(t, n, most-1, thing(most))
	mustDouble(t, n, 0, api.OK)
	mustDouble(t, n, 0, api.ErrFull)
	want[most-1] = thing(0)
	mustHave(t, n, want)

	n.Clear()
	mustSend(t, n, thing(1), api.OK)
	for range most - 1 {
		mustDouble(t, n, 0, api.OK)
	}
	mustDouble(t, n, 0, api.ErrFull)
	mustSend(t, n, thing(2), api.ErrFull)
	mustHave(t, n, slices.Repeat(these(thing, 1), most))
}

// nilNet: it has nothing, and takes nothing.
func nilNet[T any](t *testing.T, thing func(int) T) {
	var n *net.Net[T]
	for range 2 {
		mustSend(t, n, thing(1), api.ErrArg)
		for _, i := range append(places(0), places(2)...) {
			mustNotTake(t, n, i, api.ErrArg)
			mustDouble(t, n, i, api.ErrArg)
		}
		mustNotTake(t, n, 0, api.ErrArg)
		mustDouble(t, n, 0, api.ErrArg)
		mustHave(t, n, nil)
		n.Clear()
	}
}

// ownMemory: what All handed out is the asker's own: to change it changes no net, nor does a net change it.
func ownMemory[T any](t *testing.T, thing func(int) T) {
	for k := 1; k < 10; k++ {
		n := sent(t, thing, k)
		first, second := n.All(), n.All()
		for i := range first {
			first[i] = thing(50 + i)
		}
		mustHave(t, n, these(thing, upTo(k)...))
		if !reflect.DeepEqual(second, these(thing, upTo(k)...)) {
			t.Errorf("two lists of %d things are one", k)
		}

		_ = append(first, thing(77))  // in room behind it, if it has any
		_ = append(second, thing(78)) // which may be no net's
		mustSend(t, n, thing(k), api.OK)
		third := n.All()
		_ = append(third[:0], thing(79), thing(80))
		mustHave(t, n, these(thing, upTo(k+1)...))

		kept := n.All()
		mustTake(t, n, 0, thing(0))
		mustSend(t, n, thing(60), api.OK)
		n.Clear()
		mustSend(t, n, thing(61), api.OK)
		if !reflect.DeepEqual(kept, these(thing, upTo(k+1)...)) {
			t.Errorf("what was told of %d things changed", k+1)
		}
	}
}

// P9.1: two nets have nothing to do with each other.
func TestTwoNets(t *testing.T) {
	a, b := net.New[int](), net.New[int]()
	mustSend(t, a, 1, api.OK)
	mustSend(t, b, 2, api.OK)
	mustSend(t, a, 3, api.OK)
	mustTake(t, b, 0, 2)
	mustHave(t, a, []int{1, 3})
	a.Clear()
	mustSend(t, b, 4, api.OK)
	mustHave(t, a, nil)
	mustHave(t, b, []int{4})
}

// told is another telling of a net of numbers: each thing with the time at which it was sent, in any order.
type told struct {
	clock int
	sent  map[int]int
}

// at is when the i-th one was sent.
func (x *told) at(i int) (int, bool) {
	for when := range x.sent {
		elder := 0
		for other := range x.sent {
			if other < when {
				elder++
			}
		}
		if elder == i {
			return when, true
		}
	}
	return 0, false
}

func (x *told) send(thing int) api.Errno {
	if len(x.sent) == api.MaxFlight {
		return api.ErrFull
	}
	x.clock++
	x.sent[x.clock] = thing
	return api.OK
}

func (x *told) all() []int {
	var l []int
	for when := 1; when <= x.clock; when++ {
		if thing, ok := x.sent[when]; ok {
			l = append(l, thing)
		}
	}
	return l
}

// sendNext sends to both a number that they never had.
func sendNext(t *testing.T, n *net.Net[int], x *told) {
	t.Helper()
	thing := 1000 + x.clock
	mustSend(t, n, thing, x.send(thing))
}

// act does one thing to both: 0 sends, 1 clears, and the others take and double at the places from -1 on.
func act(t *testing.T, n *net.Net[int], x *told, what int) {
	t.Helper()
	switch {
	case what == 0:
		sendNext(t, n, x)
	case what == 1:
		n.Clear()
		clear(x.sent)
	case what%2 == 0:
		at := what/2 - 2
		when, ok := x.at(at)
		if !ok {
			mustNotTake(t, n, at, api.ErrNone)
			return
		}
		mustTake(t, n, at, x.sent[when])
		delete(x.sent, when)
	default:
		at := what/2 - 2
		if when, ok := x.at(at); ok {
			mustDouble(t, n, at, x.send(x.sent[when]))
		} else {
			mustDouble(t, n, at, api.ErrNone)
		}
	}
}

// P9.1: each row of five acts, held against the same told by hand.
func TestAllShortRows(t *testing.T) {
	const kinds, long = 12, 5 // the places -1 to 3
	rows := 1
	for range long {
		rows *= kinds
	}
	for row := range rows {
		n, x := net.New[int](), &told{sent: map[int]int{}}
		for left, i := row, 0; i < long; i++ {
			act(t, n, x, left%kinds)
			left /= kinds
		}
		mustHave(t, n, x.all())
		if t.Failed() {
			t.Fatalf("the row %d", row)
		}
	}
}

// P9.1: a long row of acts, at the bound of what may be.
func TestLongRow(t *testing.T) {
	n, x := net.New[int](), &told{sent: map[int]int{}}
	for range api.MaxFlight - 2 {
		sendNext(t, n, x)
	}
	draw := uint64(9)
	for range 1500 {
		draw = draw*6364136223846793005 + 1442695040888963407
		at := int(draw>>33) % (api.MaxFlight + 2)
		switch draw >> 61 {
		case 0, 1, 2:
			act(t, n, x, 0)
		case 3, 4:
			act(t, n, x, 2*at+3)
		default:
			act(t, n, x, 2*at+2)
		}
		if t.Failed() {
			break
		}
	}
	mustHave(t, n, x.all())
}
