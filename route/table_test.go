package route_test

import (
	"fmt"
	"math"
	"slices"
	"strconv"
	"sync"
	"testing"

	"kissinggate/api"
	"kissinggate/route"
)

// mustTell: a table has this map, nil or of these splits, and this number.
func mustTell(t *testing.T, where string, x *route.Table, nothing bool, splits []string, number int) {
	t.Helper()
	for range 2 {
		m, n := x.Now()
		if (m == nil) != nothing || n != number {
			t.Fatalf("%s: Now answers %v, %d, not the number %d", where, m, n, number)
		}
		if !nothing {
			mustHave(t, where, m, splits)
		}
	}
}

// mustChange: Change answers so.
func mustChange(t *testing.T, where string, x *route.Table, m *route.Map, number int, want api.Errno) {
	t.Helper()
	if why := x.Change(m, number); why != want {
		t.Errorf("%s: Change with the number %d answers %d, not %d", where, number, why, want)
	}
}

// others are numbers that aren't this one.
func others(number int) []int {
	l := []int{math.MinInt, -number, -1, 0, 1, number - 2, number - 1, number + 1, number + 2, number + 256, number + 1<<32, math.MaxInt}
	return slices.DeleteFunc(l, func(n int) bool { return n == number })
}

// P11.1: each map of a table has its number, the first one 1, and only who knows it puts another one in its place.
func TestTable(t *testing.T) {
	has := []string{"g", "p"}
	x := route.NewTable(of(t, has...))
	mustTell(t, "a new one", x, false, has, 1)
	for number := 1; number < 40; number++ {
		next := []string{"a", "b" + strconv.Itoa(number)}
		for _, wrong := range others(number) {
			mustChange(t, "not its number", x, of(t, next...), wrong, api.ErrState)
			mustChange(t, "nil, and not its number", x, nil, wrong, api.ErrArg)
		}
		mustChange(t, "nil", x, nil, number, api.ErrArg)
		mustTell(t, "not changed", x, false, has, number)

		mustChange(t, "its number", x, of(t, next...), number, api.OK)
		has = next
		mustTell(t, "changed", x, false, has, number+1)
		mustChange(t, "its number no more", x, of(t, "z"), number, api.ErrState)
		mustTell(t, "changed once", x, false, has, number+1)
	}
}

// P11.1: the first map of a table may be nil; the same map may come again.
func TestTableOfNil(t *testing.T) {
	x := route.NewTable(nil)
	mustTell(t, "of nil", x, true, nil, 1)
	mustChange(t, "of nil", x, nil, 1, api.ErrArg)
	for _, wrong := range others(1) {
		mustChange(t, "of nil", x, of(t, "a"), wrong, api.ErrState)
	}
	mustTell(t, "of nil", x, true, nil, 1)
	m := of(t)
	mustChange(t, "of nil", x, m, 1, api.OK)
	mustTell(t, "without splits", x, false, nil, 2)
	mustChange(t, "the same one again", x, m, 2, api.OK)
	mustTell(t, "the same one again", x, false, nil, 3)
	mustChange(t, "the number of the same one ahead", x, m, 2, api.ErrState)
	mustTell(t, "the same one", x, false, nil, 3)
}

// P11.1: a nil table has nothing, and takes nothing.
func TestNilTable(t *testing.T) {
	var none *route.Table
	for _, number := range []int{math.MinInt, -1, 0, 1, 2, math.MaxInt} {
		mustTell(t, "a nil table", none, true, nil, 0)
		mustChange(t, "a nil table", none, of(t, "a"), number, api.ErrArg)
		mustChange(t, "a nil table, and a nil map", none, nil, number, api.ErrArg)
	}
	mustTell(t, "a nil table", none, true, nil, 0)
}

// P11.1: two tables of one map have nothing to do with each other.
func TestTwoTables(t *testing.T) {
	m := of(t, "g")
	x, y := route.NewTable(m), route.NewTable(m)
	mustChange(t, "the first one", x, of(t, "h"), 1, api.OK)
	mustTell(t, "the first one", x, false, []string{"h"}, 2)
	mustTell(t, "the second one", y, false, []string{"g"}, 1)
	mustChange(t, "the second one", y, of(t, "i"), 1, api.OK)
	mustTell(t, "the first one", x, false, []string{"h"}, 2)
	mustTell(t, "the second one", y, false, []string{"i"}, 2)
	mustHave(t, "the map", m, []string{"g"})
}

// P11.1: who has read a map keeps it, and its number, as they were.
func TestWhoHasReadOneKeepsIt(t *testing.T) {
	x := route.NewTable(of(t, "m"))
	var maps []*route.Map
	var numbers []int
	for i := range 20 {
		m, number := x.Now()
		maps, numbers = append(maps, m), append(numbers, number)
		next := of(t, "k"+strconv.Itoa(i))
		if i%3 == 0 {
			next, _ = m.Split("x" + strconv.Itoa(i))
		}
		mustChange(t, "the number that was read", x, next, number, api.OK)
		m.Splits()[0] = "changed"
	}
	mustHave(t, "the first one", maps[0], []string{"m"})
	for i, m := range maps {
		want := []string{"m"}
		if i > 0 {
			want = []string{"k" + strconv.Itoa(i-1)}
		}
		if i%3 == 1 {
			want = append(maps[i-1].Splits(), "x"+strconv.Itoa(i-1))
		}
		mustHave(t, fmt.Sprintf("the map of the number %d", i+1), m, want)
		if numbers[i] != i+1 {
			t.Errorf("the %d-th map has the number %d", i, numbers[i])
		}
	}
}

// numberedMap is a map whose split tells its number.
func numberedMap(number int) *route.Map {
	m, _ := route.New([]string{strconv.Itoa(number)})
	return m
}

// mustBeItsMap: a map that was read tells the number that was read with it.
func mustBeItsMap(t *testing.T, m *route.Map, number int) {
	if splits := m.Splits(); !slices.Equal(splits, []string{strconv.Itoa(number)}) {
		t.Errorf("with the number %d the map %q is read", number, splits)
	}
}

// changeAll changes a table, as others do, until it has had so many changes: the numbers that it changed itself.
func changeAll(t *testing.T, x *route.Table, changes int) []int {
	var won []int
	for !t.Failed() {
		m, number := x.Now()
		mustBeItsMap(t, m, number)
		if number > changes {
			break
		}
		switch why := x.Change(numberedMap(number+1), number); why {
		case api.OK:
			won = append(won, number)
		case api.ErrState:
			if _, now := x.Now(); now <= number {
				t.Errorf("Change with the number %d answers %d, and the table has the number %d", number, why, now)
			}
		default:
			t.Errorf("Change answers %d", why)
		}
	}
	return won
}

// readAll reads a table until it has had so many changes.
func readAll(t *testing.T, x *route.Table, changes int) {
	for last := 0; last <= changes && !t.Failed(); {
		m, number := x.Now()
		mustBeItsMap(t, m, number)
		if number < last {
			t.Errorf("the number %d comes behind %d", number, last)
		}
		last = number
	}
}

// P11.1: where many change a table and read it at once, each number is changed by just one, and a map comes with its own number.
func TestManyAtOnce(t *testing.T) {
	const many, changes = 8, 300
	x := route.NewTable(numberedMap(1))
	won := make([][]int, many)
	var all sync.WaitGroup
	for i := range many {
		all.Go(func() { won[i] = changeAll(t, x, changes) })
		all.Go(func() { readAll(t, x, changes) })
	}
	all.Wait()
	taken := slices.Sorted(slices.Values(slices.Concat(won...)))
	for i, number := range taken {
		if number != i+1 {
			t.Fatalf("the numbers that were changed are %v", taken)
		}
	}
	if len(taken) != changes {
		t.Errorf("%d changes, not %d", len(taken), changes)
	}
	mustTell(t, "behind all", x, false, []string{strconv.Itoa(changes + 1)}, changes+1)
}
