package route_test

import (
	"fmt"
	"math"
	"slices"
	"strings"
	"testing"

	"kissinggate/api"
	"kissinggate/route"
)

// longest is as long as a key may be, and tooLong by a byte longer.
var (
	longest = strings.Repeat("m", api.MaxKey)
	tooLong = strings.Repeat("m", api.MaxKey+1)
)

// seven are as many splits as may be.
func seven() []string { return []string{"b", "d", "f", "h", "j", "l", "n"} }

// rows are splits of many kinds, which may be.
func rows() [][]string {
	return [][]string{
		nil,
		{},
		{"g"},
		{"\x00"},
		{"\xff"},
		{longest},
		{"g", "p"},
		{"Z", "a"},
		{"a", "a\x00", "aa", "ab", "b"},
		{"a", "\x80", "\xc3\xa9", "\xff\xff"},
		{longest[1:], longest, "n"},
		{"10", "9", "A", "_", "a", "~"},
		seven(),
	}
}

// keysAbout are keys of all kinds, and those below, at and above each split.
func keysAbout(splits []string) []string {
	keys := []string{"", "\x00", "\x01", " ", "0", "A", "a", "g", "mm", "p", "z", "\x7f", "\x80", "\xc3\xa9", "\xff", "\xff\xff\xff", longest, tooLong, strings.Repeat("k", 999)}
	for _, s := range splits {
		last := len(s) - 1
		keys = append(keys, s, s[:last], s+"\x00", s+"\xff", s[:last]+string([]byte{s[last] + 1}))
		if s[last] > 0 {
			keys = append(keys, s[:last]+string([]byte{s[last] - 1}), s[:last]+string([]byte{s[last] - 1, 255, 255}))
		}
	}
	return keys
}

// shardOf is the shard that has a key: told by going through the splits.
func shardOf(splits []string, key string) int {
	n := 0
	for _, s := range splits {
		if s <= key {
			n++
		}
	}
	return n
}

// mustHave: the map has these splits, whichever call is asked.
func mustHave(t *testing.T, where string, m *route.Map, splits []string) {
	t.Helper()
	if m == nil {
		t.Fatalf("%s: there is no map", where)
	}
	if got := m.Splits(); !slices.Equal(got, splits) {
		t.Errorf("%s: Splits answers %q, not %q", where, got, splits)
	}
	if got := m.Shards(); got != len(splits)+1 {
		t.Errorf("%s: Shards answers %d, not %d", where, got, len(splits)+1)
	}
	for _, key := range keysAbout(splits) {
		if got, want := m.Of(key), shardOf(splits, key); got != want {
			t.Errorf("%s: Of(%q) answers %d, not %d", where, key, got, want)
		}
	}
	bounds := append(append([]string{""}, splits...), "")
	for i := range len(splits) + 1 {
		mustRange(t, where, m, i, bounds[i], bounds[i+1], api.OK)
	}
	for _, i := range []int{math.MinInt, -2, -1, len(splits) + 1, len(splits) + 2, api.MaxShards, math.MaxInt} {
		mustRange(t, where, m, i, "", "", api.ErrNone)
	}
}

// mustRange: Range answers so.
func mustRange(t *testing.T, where string, m *route.Map, shard int, low, high string, fault api.Errno) {
	t.Helper()
	if l, h, why := m.Range(shard); l != low || h != high || why != fault {
		t.Errorf("%s: Range(%d) answers %q, %q, %d, not %q, %q, %d", where, shard, l, h, why, low, high, fault)
	}
}

// mustMake: a map was made, of these splits.
func mustMake(t *testing.T, where string, m *route.Map, why api.Errno, splits []string) {
	t.Helper()
	if why != api.OK {
		t.Fatalf("%s answers %d", where, why)
	}
	mustHave(t, where, m, splits)
}

// mustFail: no map was made, for this reason.
func mustFail(t *testing.T, where string, m *route.Map, why, want api.Errno) {
	t.Helper()
	if m != nil || why != want {
		t.Errorf("%s answers %v, %d, not nil, %d", where, m, why, want)
	}
}

// of is a map of these splits.
func of(t *testing.T, splits ...string) *route.Map {
	t.Helper()
	m, why := route.New(splits)
	if why != api.OK {
		t.Fatalf("New(%q) answers %d", splits, why)
	}
	return m
}

// P11.1: the chapter's example.
func TestTheExample(t *testing.T) {
	m := of(t, "g", "p")
	for key, want := range map[string]int{"a": 0, "g": 1, "z": 2} {
		if got := m.Of(key); got != want {
			t.Errorf("Of(%q) answers %d, not %d", key, got, want)
		}
	}
}

// P11.1: maps of no split, of one, of as many as may be; each key below, at and above each.
func TestNew(t *testing.T) {
	for _, splits := range rows() {
		m, why := route.New(splits)
		mustMake(t, fmt.Sprintf("New(%q)", splits), m, why, splits)
	}
}

// P11.1: which splits may not be, and what is told first: ErrFull, then ErrArg, then ErrRange, each asked of all.
func TestNewOfWhatMayNotBe(t *testing.T) {
	eight := append(seven(), "p")
	for _, c := range []struct {
		splits []string
		want   api.Errno
	}{
		{eight, api.ErrFull},
		{append(eight, "r"), api.ErrFull},
		{slices.Repeat([]string{"a"}, 100), api.ErrFull},
		{append(seven(), ""), api.ErrFull},
		{append(seven(), tooLong), api.ErrFull},
		{append(seven(), "a"), api.ErrFull},
		{append([]string{"", tooLong, "z", "a"}, eight...), api.ErrFull},
		{[]string{""}, api.ErrArg},
		{[]string{tooLong}, api.ErrArg},
		{[]string{longest + longest + longest}, api.ErrArg},
		{[]string{"", "a"}, api.ErrArg},
		{[]string{"a", ""}, api.ErrArg},
		{[]string{"a", tooLong}, api.ErrArg},
		{[]string{"z", "a", ""}, api.ErrArg},
		{[]string{"z", "a", tooLong}, api.ErrArg},
		{[]string{"a", "a", ""}, api.ErrArg},
		{[]string{"", "z", "a"}, api.ErrArg},
		{[]string{"n", "a", "b", "c", "d", "e", tooLong}, api.ErrArg},
		{[]string{"a", "a"}, api.ErrRange},
		{[]string{"b", "a"}, api.ErrRange},
		{[]string{"a", "c", "b"}, api.ErrRange},
		{[]string{"a", "b", "b"}, api.ErrRange},
		{[]string{"c", "a", "b"}, api.ErrRange},
		{[]string{"a", "Z"}, api.ErrRange},
		{[]string{"9", "10"}, api.ErrRange},
		{[]string{"aa", "a"}, api.ErrRange},
		{[]string{"\xff", "\x80"}, api.ErrRange},
		{[]string{"b", "d", "f", "h", "j", "l", "l"}, api.ErrRange},
		{[]string{"b", "d", "f", "h", "j", "l", "k"}, api.ErrRange},
	} {
		m, why := route.New(c.splits)
		mustFail(t, fmt.Sprintf("New(%q)", c.splits), m, why, c.want)
	}
}

// P11.1: a split more, at each place of each map.
func TestSplit(t *testing.T) {
	for _, splits := range rows() {
		m := of(t, splits...)
		for _, key := range keysAbout(splits) {
			where := fmt.Sprintf("Split(%q) of %q", key, splits)
			got, why := m.Split(key)
			switch {
			case key == "" || len(key) > api.MaxKey:
				mustFail(t, where, got, why, api.ErrArg)
			case slices.Contains(splits, key):
				mustFail(t, where, got, why, api.ErrState)
			case len(splits) == api.MaxSplits:
				mustFail(t, where, got, why, api.ErrFull)
			default:
				mustMake(t, where, got, why, slices.Sorted(slices.Values(append([]string{key}, splits...))))
			}
		}
		mustHave(t, "a map behind all of these", m, splits)
	}
}

// P11.1: a map that is made by Split alone, up to as many as may be.
func TestSplitAgainAndAgain(t *testing.T) {
	m := of(t)
	var has []string
	for _, key := range []string{"k", "c", longest, "\xff", "a", "z", "d"} {
		next, why := m.Split(key)
		mustHave(t, "what was split", m, has)
		has = append(has, key)
		slices.Sort(has)
		mustMake(t, "what was made of it", next, why, has)
		m = next
	}
	for key, want := range map[string]api.Errno{"b": api.ErrFull, "k": api.ErrState, "": api.ErrArg, tooLong: api.ErrArg} {
		next, why := m.Split(key)
		mustFail(t, fmt.Sprintf("a full map: Split(%q)", key), next, why, want)
	}
	mustHave(t, "a full map", m, has)
}

// P11.1: a shard and the next one are one.
func TestJoin(t *testing.T) {
	for _, splits := range rows() {
		m := of(t, splits...)
		for i := range splits {
			got, why := m.Join(i)
			mustMake(t, fmt.Sprintf("Join(%d) of %q", i, splits), got, why, slices.Concat(splits[:i], splits[i+1:]))
		}
		for _, i := range []int{math.MinInt, -2, -1, len(splits), len(splits) + 1, api.MaxShards, math.MaxInt - 1, math.MaxInt} {
			got, why := m.Join(i)
			mustFail(t, fmt.Sprintf("Join(%d) of %q", i, splits), got, why, api.ErrNone)
		}
		mustHave(t, "a map behind all of these", m, splits)
	}
}

// P11.1: a nil map has no shards, and is told as no argument.
func TestNilMap(t *testing.T) {
	var none *route.Map
	if none.Shards() != 0 || len(none.Splits()) != 0 {
		t.Error("Shards, Splits:", none.Shards(), none.Splits())
	}
	for _, key := range keysAbout(seven()) {
		if got := none.Of(key); got != 0 {
			t.Errorf("Of(%q): %d", key, got)
		}
		m, why := none.Split(key)
		mustFail(t, fmt.Sprintf("Split(%q)", key), m, why, api.ErrArg)
	}
	for _, i := range []int{math.MinInt, -1, 0, 1, 7, math.MaxInt} {
		mustRange(t, "a nil map", none, i, "", "", api.ErrArg)
		m, why := none.Join(i)
		mustFail(t, fmt.Sprintf("Join(%d)", i), m, why, api.ErrArg)
	}
}

// P11.1: what was handed in, or out, may be changed: no map changes.
func TestOwnMemory(t *testing.T) {
	for _, splits := range rows() {
		in := slices.Clone(splits)
		m := of(t, in...)
		in = append(in[:0], slices.Repeat([]string{"x"}, len(splits))...)
		mustHave(t, "what was handed in is changed", m, splits)

		first, second := m.Splits(), m.Splits()
		for i := range first {
			first[i] = "y"
		}
		_ = append(first, "behind")
		mustHave(t, "what was handed out is changed", m, splits)
		if !slices.Equal(second, splits) {
			t.Errorf("two answers share memory: %q", second)
		}
	}

	m := of(t, "b", "d", "f")
	split, _ := m.Split("c")
	join, _ := m.Join(1)
	more, _ := split.Split("e")
	for _, x := range []*route.Map{split, join, more} {
		l := x.Splits()
		for i := range l {
			l[i] = "y"
		}
	}
	mustHave(t, "the first one", m, []string{"b", "d", "f"})
	mustHave(t, "split", split, []string{"b", "c", "d", "f"})
	mustHave(t, "joined", join, []string{"b", "f"})
	mustHave(t, "split twice", more, []string{"b", "c", "d", "e", "f"})
}

// P11.1: New leaves what it is handed as it is, whatever it answers.
func TestNewChangesNothing(t *testing.T) {
	for _, splits := range [][]string{seven(), {"b", "a"}, {"a", "a"}, {"", "z", "a"}, append(seven(), "a")} {
		in := slices.Clone(splits)
		route.New(in)
		if !slices.Equal(in, splits) {
			t.Errorf("New made %q of %q", in, splits)
		}
	}
}
