package route_test

import (
	"fmt"
	"slices"
	"testing"

	"kissinggate/api"
	"kissinggate/route"
)

// drawing draws numbers below n, the same ones of each seed.
func drawing(x uint32) func(n int) int {
	x = x*2654435761 + 97
	return func(n int) int {
		x = x*1664525 + 1013904223
		return int(x>>12) % n
	}
}

// anyKey draws a key of few kinds of bytes, so that many are alike, or begin alike.
func anyKey(draw func(n int) int, most int) string {
	b := make([]byte, draw(most+1))
	for i := range b {
		b[i] = []byte{0, 1, 'a', 'b', 0x80, 0xff}[draw(6)]
	}
	return string(b)
}

// anySplits draws splits that may be.
func anySplits(draw func(n int) int) []string {
	var splits []string
	for range draw(api.MaxSplits + 1) {
		if key := anyKey(draw, []int{2, 3, api.MaxKey}[draw(3)]); key != "" {
			splits = append(splits, key)
		}
	}
	slices.Sort(splits)
	return slices.Compact(splits)
}

// mustHaveOne: of all shards just one's Range has the key, and Of tells it.
func mustHaveOne(t *testing.T, m *route.Map, key string) {
	t.Helper()
	var in []int
	for i := range m.Shards() {
		low, high, why := m.Range(i)
		if why != api.OK {
			t.Fatalf("%q: Range(%d) answers %d", m.Splits(), i, why)
		}
		if low <= key && (high == "" || key < high) {
			in = append(in, i)
		}
	}
	if !slices.Equal(in, []int{m.Of(key)}) {
		t.Fatalf("%q: %q is in the ranges of %v, and Of tells %d", m.Splits(), key, in, m.Of(key))
	}
}

// mustBeOne: the ranges lie one behind the other, from no byte on, and the last one has no end.
func mustBeOne(t *testing.T, m *route.Map) {
	t.Helper()
	at := ""
	for i := range m.Shards() {
		low, high, _ := m.Range(i)
		last := i == m.Shards()-1
		if low != at || (high == "") != last || !last && high <= low {
			t.Fatalf("%q: Range(%d) is from %q to %q, behind %q", m.Splits(), i, low, high, at)
		}
		at = high
	}
}

// P11.2: each key has just one shard, at all maps of few splits.
func TestEachKeyHasOneShard(t *testing.T) {
	all := []string{"\x00", "a", "a\x00", "ab", "b", "\x80", "\xff"}
	keys := append(keysAbout(all), "aa", "ac", "c", "\xff\xff")
	for set := range 1 << len(all) {
		var splits []string
		for i, s := range all {
			if set>>i&1 == 1 {
				splits = append(splits, s)
			}
		}
		m := of(t, splits...)
		mustBeOne(t, m)
		for _, key := range keys {
			mustHaveOne(t, m, key)
		}
	}
}

// P11.2: any keys at any maps, those that were split, joined and laid evenly, too.
func TestAnyKeysAtAnyMaps(t *testing.T) {
	draw := drawing(11)
	for range 2000 {
		m := of(t, anySplits(draw)...)
		switch draw(4) {
		case 0:
			if next, why := m.Split(anyKey(draw, 3)); why == api.OK {
				m = next
			}
		case 1:
			if next, why := m.Join(draw(m.Shards())); why == api.OK {
				m = next
			}
		case 2:
			var keys []string
			for range draw(40) {
				keys = append(keys, anyKey(draw, 4))
			}
			next, why := route.Even(keys, 1+draw(api.MaxShards))
			if why != api.OK {
				t.Fatalf("Even(%q) answers %d", keys, why)
			}
			m = next
		}
		mustBeOne(t, m)
		for range 20 {
			mustHaveOne(t, m, anyKey(draw, 5))
		}
		for _, key := range keysAbout(m.Splits()) {
			mustHaveOne(t, m, key)
		}
	}
}

// P11.2: what is split, and joined again, is as it was; so is what is joined, and split again.
func TestSplitAndJoined(t *testing.T) {
	draw := drawing(12)
	splitted := 0
	for range 2000 {
		splits := anySplits(draw)
		m := of(t, splits...)
		key := anyKey(draw, []int{2, api.MaxKey}[draw(2)])
		if more, why := m.Split(key); why == api.OK {
			splitted++
			again, why := more.Join(shardOf(splits, key))
			mustMake(t, fmt.Sprintf("%q, split at %q and joined again", splits, key), again, why, splits)
		}
		for i, s := range splits {
			less, why := m.Join(i)
			if why != api.OK {
				t.Fatalf("Join(%d) of %q answers %d", i, splits, why)
			}
			again, why := less.Split(s)
			mustMake(t, fmt.Sprintf("%q, joined at %d and split again", splits, i), again, why, splits)
		}
	}
	if splitted < 500 {
		t.Errorf("%d were split: too few to tell anything", splitted)
	}
}
