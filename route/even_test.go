package route_test

import (
	"fmt"
	"math"
	"slices"
	"strings"
	"testing"

	"kissinggate/api"
	"kissinggate/route"
)

// evenly are the splits of Even, told by counting: a key is one if a place that is asked for is its own.
func evenly(keys []string, n int) []string {
	has := map[string]int{}
	for _, key := range keys {
		has[key]++
	}
	var once []string
	for key := range has {
		once = append(once, key)
	}
	slices.Sort(once)
	var splits []string
	for place, key := range once {
		for i := 1; i < n; i++ {
			if place > 0 && place*n <= i*len(once) && i*len(once) < (place+1)*n { // rounded down
				splits = append(splits, key)
				break
			}
		}
	}
	return splits
}

// mustSplitEvenly: Even answers so, and leaves the keys as they were.
func mustSplitEvenly(t *testing.T, keys []string, n int, want []string) {
	t.Helper()
	was := slices.Clone(keys)
	where := fmt.Sprintf("Even(%.99q, %d)", keys, n)
	m, why := route.Even(keys, n)
	mustMake(t, where, m, why, want)
	if !slices.Equal(keys, was) {
		t.Errorf("%s changed the keys", where)
	}
}

// letters are the first n letters, each as a key.
func letters(n int) []string { return strings.Split("abcdefghijklmnopqrstuvwxyz"[:n], "") }

// P11.1: Even, by hand.
func TestEven(t *testing.T) {
	for _, c := range []struct {
		keys []string
		n    int
		want []string
	}{
		{letters(4), 2, []string{"c"}},
		{letters(5), 2, []string{"c"}},
		{letters(5), 3, []string{"b", "d"}},
		{letters(7), 3, []string{"c", "e"}},
		{letters(8), 8, letters(8)[1:]},
		{letters(9), 8, letters(8)[1:]},
		{letters(15), 8, []string{"b", "d", "f", "h", "j", "l", "n"}},
		{letters(26), 5, []string{"f", "k", "p", "u"}},
		{letters(26), 1, nil},
		{nil, 1, nil},
		{nil, 8, nil},
		{[]string{}, 3, nil},
		{[]string{"a"}, 1, nil},
		{[]string{"a"}, 8, nil},                           // all are at the place 0
		{[]string{"a", "b"}, 8, []string{"b"}},            // four at the place 0, three alike
		{letters(3), 8, []string{"b", "c"}},               // 0 0 1 1 1 2 2
		{letters(3), 2, []string{"b"}},                    // rounded down
		{letters(7), 8, letters(7)[1:]},                   // the first one is at the place 0
		{[]string{"d", "b", "a", "c"}, 2, letters(3)[2:]}, // unsorted
		{[]string{"a", "a", "a", "a", "b", "c"}, 2, []string{"b"}},
		{[]string{"c", "a", "c", "b", "a", "c"}, 3, []string{"b", "c"}},
		{slices.Repeat([]string{"a"}, 100), 8, nil},
		{[]string{"", "a"}, 2, []string{"a"}}, // without a byte, at the place 0
		{[]string{"", ""}, 2, nil},
		{[]string{"a", "", "b", "c"}, 4, letters(3)},
		{[]string{"a", longest}, 2, []string{longest}},
		{[]string{"a", "b", "c", tooLong}, 2, []string{"c"}}, // too long, but no split
		{[]string{tooLong, "z"}, 2, []string{"z"}},
		{[]string{tooLong}, 8, nil},
		{[]string{"a", tooLong, "z"}, 1, nil},
		{[]string{"a", "Z", "\xff", "\x80", "10", "9"}, 3, []string{"Z", "\x80"}},
	} {
		mustSplitEvenly(t, c.keys, c.n, c.want)
	}
}

// P11.1: Even of each number of keys, in as many parts as may be, in each order.
func TestEvenOfAllNumbers(t *testing.T) {
	draw := drawing(5)
	for k := range 27 {
		for n := 1; n <= api.MaxShards; n++ {
			rising := letters(k)
			falling := slices.Clone(rising)
			slices.Reverse(falling)
			mixed := append(slices.Clone(rising), rising[:k/2]...)
			for i := range mixed {
				j := draw(len(mixed))
				mixed[i], mixed[j] = mixed[j], mixed[i]
			}
			want := evenly(rising, n)
			mustSplitEvenly(t, rising, n, want)
			mustSplitEvenly(t, falling, n, want)
			mustSplitEvenly(t, mixed, n, want)
		}
	}
}

func TestEvenOfManyKeys(t *testing.T) {
	var keys []string
	for i := range 3000 {
		keys = append(keys, fmt.Sprint(i*7919%1500))
	}
	for _, n := range []int{1, 2, 3, 7, api.MaxShards} {
		mustSplitEvenly(t, keys, n, evenly(keys, n))
	}
}

// P11.1: as many parts as may not be, and keys that may be no splits where they would be.
func TestEvenOfWhatMayNotBe(t *testing.T) {
	for _, n := range []int{math.MinInt, -8, -1, 0, api.MaxShards + 1, api.MaxShards + 2, 1000, math.MaxInt} {
		for _, keys := range [][]string{nil, {"a"}, letters(8), {tooLong, "z"}} {
			m, why := route.Even(keys, n)
			mustFail(t, fmt.Sprintf("Even(%q, %d)", keys, n), m, why, api.ErrArg)
		}
	}
	for _, c := range []struct {
		keys []string
		n    int
	}{
		{[]string{"a", tooLong}, 2},
		{[]string{"a", tooLong}, 8},
		{[]string{tooLong, "a"}, 2},
		{[]string{"a", "b", tooLong}, 3},
		{[]string{longest, tooLong, strings.Repeat("z", 500)}, 8},
	} {
		m, why := route.Even(c.keys, c.n)
		mustFail(t, fmt.Sprintf("Even(%q, %d)", c.keys, c.n), m, why, api.ErrArg)
	}
}

// P11.1: keys that are changed behind Even change no map.
func TestEvenOwnMemory(t *testing.T) {
	keys := letters(8)
	m, why := route.Even(keys, 4)
	for i := range keys {
		keys[i] = "x"
	}
	mustMake(t, "keys that are changed", m, why, []string{"c", "e", "g"})
}
