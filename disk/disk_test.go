package disk_test

import (
	"bytes"
	"fmt"
	"math"
	"slices"
	"testing"

	"kissinggate/api"
	"kissinggate/disk"
)

// with is a disk of these bytes, the first synced and the others its tail.
func with(t *testing.T, synced, tail string) *disk.Disk {
	t.Helper()
	d := disk.New()
	for _, fault := range []api.Errno{d.Write([]byte(synced)), d.Sync(), d.Write([]byte(tail))} {
		if fault != api.OK {
			t.Fatal("a disk can't be made:", fault)
		}
	}
	mustHave(t, d, synced, tail)
	return d
}

// mustHave: the disk's bytes are these, and no others.
func mustHave(t *testing.T, d *disk.Disk, synced, tail string) {
	t.Helper()
	if b := d.Bytes(); string(b) != synced+tail || d.Len() != len(synced)+len(tail) || d.Synced() != len(synced) {
		t.Errorf("%.40q, %d bytes, %d synced; not %.40q and %.40q", b, d.Len(), d.Synced(), synced, tail)
	}
}

// mustAnswer: a call's answer is this one.
func mustAnswer(t *testing.T, call string, got, want api.Errno) {
	t.Helper()
	if got != want {
		t.Errorf("%s answers %d, not %d", call, got, want)
	}
}

// P4.1: the chapter's example.
func TestTheExample(t *testing.T) {
	d := disk.New()
	mustAnswer(t, "Write", d.Write([]byte("ab")), api.OK)
	mustAnswer(t, "Sync", d.Sync(), api.OK)
	mustAnswer(t, "Write", d.Write([]byte("cd")), api.OK)
	mustAnswer(t, "Crash", d.Crash(1, -1, 0), api.OK)
	mustHave(t, d, "ab", "c")
}

func TestANewDisk(t *testing.T) {
	d := disk.New()
	mustHave(t, d, "", "")
	mustAnswer(t, "Sync", d.Sync(), api.OK)
	mustAnswer(t, "Crash", d.Crash(5, 0, 255), api.OK)
	mustAnswer(t, "Cut(0)", d.Cut(0), api.OK)
	mustAnswer(t, "Cut(1)", d.Cut(1), api.ErrRange)
	mustAnswer(t, "Spoil(0)", d.Spoil(0, 255), api.ErrRange)
	mustHave(t, d, "", "")
	mustAnswer(t, "Write", d.Write([]byte("a")), api.OK)
	mustHave(t, disk.New(), "", "") // each has bytes of its own
}

// P4.1: what is written is behind all, and tail until all is synced.
func TestWriteAndSync(t *testing.T) {
	d := with(t, "ab", "cd")
	mustAnswer(t, "Write of nothing", d.Write(nil), api.OK)
	mustAnswer(t, "Write of nothing", d.Write([]byte{}), api.OK)
	mustHave(t, d, "ab", "cd")
	mustAnswer(t, "Write", d.Write([]byte{'e', 0, 255}), api.OK)
	mustHave(t, d, "ab", "cde\x00\xff")
	mustAnswer(t, "Sync", d.Sync(), api.OK)
	mustHave(t, d, "abcde\x00\xff", "")
	mustAnswer(t, "Sync", d.Sync(), api.OK)
	mustHave(t, d, "abcde\x00\xff", "")
}

// P4.1: MaxDisk bytes may be, and not one more, in one writing and in many.
func TestAFullDisk(t *testing.T) {
	most := bytes.Repeat([]byte("0123456789abcdef"), api.MaxDisk/16)
	d := disk.New()
	mustAnswer(t, "Write of one too many", d.Write(append(slices.Clone(most), 'x')), api.ErrFull)
	mustHave(t, d, "", "")
	mustAnswer(t, "Write of as many as may be", d.Write(most), api.OK)
	mustHave(t, d, "", string(most))

	d = with(t, "ab", string(most[2:api.MaxDisk-1]))
	mustAnswer(t, "Write of two where there is room for one", d.Write([]byte("xy")), api.ErrFull)
	mustHave(t, d, "ab", string(most[2:api.MaxDisk-1]))
	mustAnswer(t, "Write of one where there is room for it", d.Write([]byte("x")), api.OK)
	mustAnswer(t, "Write of one more", d.Write([]byte("y")), api.ErrFull)
	mustAnswer(t, "Write of nothing", d.Write(nil), api.OK)
	mustHave(t, d, "ab", string(most[2:api.MaxDisk-1])+"x")

	mustAnswer(t, "Crash", d.Crash(3, -1, 0), api.OK)
	mustAnswer(t, "Write of one too many", d.Write(most[4:]), api.ErrFull)
	mustAnswer(t, "Write behind a crash", d.Write(most[5:]), api.OK)
	mustHave(t, d, "ab", string(most[2:5])+string(most[5:]))
	mustAnswer(t, "Sync", d.Sync(), api.OK)
	mustAnswer(t, "Write of one more", d.Write([]byte("y")), api.ErrFull)
	mustAnswer(t, "Cut", d.Cut(1), api.OK)
	mustAnswer(t, "Write of one too many", d.Write(most), api.ErrFull)
	mustAnswer(t, "Write behind a cut", d.Write(most[1:]), api.OK)
	mustHave(t, d, "a", string(most[1:]))
}

// P4.1: how much of the tail a crash keeps; what stays is tail, and what is synced stays.
func TestWhatACrashKeeps(t *testing.T) {
	for keep, tail := range map[int]string{math.MinInt: "", -1: "", 0: "", 1: "c", 2: "cd", 3: "cde", 4: "cde", 5: "cde", api.MaxDisk + 1: "cde", math.MaxInt: "cde"} {
		d := with(t, "ab", "cde")
		mustAnswer(t, fmt.Sprintf("Crash(%d)", keep), d.Crash(keep, -1, 255), api.OK)
		mustHave(t, d, "ab", tail)
		mustAnswer(t, "Write", d.Write([]byte("f")), api.OK)
		mustHave(t, d, "ab", tail+"f")
		mustAnswer(t, "Crash", d.Crash(0, 0, 255), api.OK)
		mustHave(t, d, "ab", "")
	}
}

// P4.1: the place of a crash is one of the tail's bytes that stay; if it isn't, nothing is turned.
func TestWhatACrashTurns(t *testing.T) {
	for _, c := range []struct {
		keep, at int
		by       byte
		tail     string
	}{
		{3, 0, 1, "bde"}, {3, 1, 1, "cee"}, {3, 2, 1, "cdd"}, {2, 1, 255, "c\x9b"}, {1, 0, 'c', "\x00"},
		{9, 2, 128, "cd\xe5"}, {math.MaxInt, 0, 1, "bde"},
		{3, 0, 0, "cde"}, {3, 3, 1, "cde"}, {3, -1, 1, "cde"}, {3, -2, 1, "cde"}, {3, -3, 1, "cde"}, {3, math.MinInt, 1, "cde"}, {3, math.MaxInt, 1, "cde"},
		{2, 2, 1, "cd"}, {1, 1, 1, "c"}, {1, 2, 1, "c"}, {9, 3, 1, "cde"}, {9, 8, 1, "cde"},
		{0, 0, 1, ""}, {0, -1, 1, ""}, {-1, 0, 1, ""}, {math.MinInt, math.MinInt, 255, ""}, {math.MinInt, math.MaxInt, 255, ""},
	} {
		d := with(t, "ab", "cde")
		mustAnswer(t, fmt.Sprintf("Crash(%d, %d, %d)", c.keep, c.at, c.by), d.Crash(c.keep, c.at, c.by), api.OK)
		mustHave(t, d, "ab", c.tail)
	}
	d := with(t, "", "abc")
	mustAnswer(t, "Crash with nothing synced", d.Crash(2, 1, 1), api.OK)
	mustHave(t, d, "", "ac")
	d = with(t, "abc", "")
	mustAnswer(t, "Crash with no tail", d.Crash(2, 0, 1), api.OK)
	mustHave(t, d, "abc", "")
}

// P4.1: what a cut lets stay is synced, be it tail or not; what it takes is gone.
func TestCut(t *testing.T) {
	for n := range 6 {
		d := with(t, "ab", "cde")
		mustAnswer(t, fmt.Sprintf("Cut(%d)", n), d.Cut(n), api.OK)
		mustHave(t, d, "abcde"[:n], "")
		mustAnswer(t, "Crash", d.Crash(9, 0, 255), api.OK)
		mustHave(t, d, "abcde"[:n], "")
		mustAnswer(t, "Write", d.Write([]byte("xy")), api.OK)
		mustHave(t, d, "abcde"[:n], "xy")
	}
	for _, n := range []int{-1, 6, 7, api.MaxDisk, math.MinInt, math.MaxInt} {
		d := with(t, "ab", "cde")
		mustAnswer(t, fmt.Sprintf("Cut(%d)", n), d.Cut(n), api.ErrRange)
		mustHave(t, d, "ab", "cde")
	}
}

// P4.1: a synced byte is turned, and none of the tail.
func TestSpoil(t *testing.T) {
	d := with(t, "abc", "de")
	mustAnswer(t, "Spoil(0)", d.Spoil(0, 1), api.OK)
	mustHave(t, d, "`bc", "de")
	mustAnswer(t, "Spoil(2)", d.Spoil(2, 255), api.OK)
	mustHave(t, d, "`b\x9c", "de")
	mustAnswer(t, "Spoil(2) back", d.Spoil(2, 255), api.OK)
	mustAnswer(t, "Spoil by nothing", d.Spoil(1, 0), api.OK)
	mustHave(t, d, "`bc", "de")
	for _, at := range []int{-1, 3, 4, 5, math.MinInt, math.MaxInt} {
		mustAnswer(t, fmt.Sprintf("Spoil(%d)", at), d.Spoil(at, 255), api.ErrRange)
		mustHave(t, d, "`bc", "de")
	}
	mustAnswer(t, "Sync", d.Sync(), api.OK)
	mustAnswer(t, "Spoil(4)", d.Spoil(4, 1), api.OK)
	mustHave(t, d, "`bcdd", "")
}

// P4.1: a disk's bytes are its own: neither those that were written nor those that it told are they.
func TestNoMemoryIsShared(t *testing.T) {
	b := []byte("abc")
	d := disk.New()
	mustAnswer(t, "Write", d.Write(b), api.OK)
	b[0] = '#'
	mustHave(t, d, "", "abc")

	told, other := d.Bytes(), d.Bytes()
	told[1] = '#'
	_ = append(told, '#')
	mustHave(t, d, "", "abc")
	if string(other) != "abc" {
		t.Error("two answers share memory")
	}
	mustAnswer(t, "Sync", d.Sync(), api.OK)
	mustAnswer(t, "Spoil", d.Spoil(0, 1), api.OK)
	mustAnswer(t, "Cut", d.Cut(1), api.OK)
	mustAnswer(t, "Write", d.Write([]byte("xyz")), api.OK)
	if string(other) != "abc" || string(b) != "#bc" {
		t.Errorf("what was told or handed in changes with the disk: %q, %q", other, b)
	}
}

func TestNilDisk(t *testing.T) {
	var none *disk.Disk
	for call, fault := range map[string]api.Errno{
		"Write":            none.Write([]byte("a")),
		"Write of nothing": none.Write(nil),
		"a great Write":    none.Write(make([]byte, api.MaxDisk+1)),
		"Sync":             none.Sync(),
		"Crash":            none.Crash(1, 0, 1),
		"Cut":              none.Cut(0),
		"Cut beyond":       none.Cut(-1),
		"Spoil":            none.Spoil(0, 1),
		"Spoil beyond":     none.Spoil(-1, 1),
	} {
		mustAnswer(t, call, fault, api.ErrArg)
	}
	mustHave(t, none, "", "")
}

// model is a disk told in another way: what is synced, and the tail.
type model struct {
	synced, tail []byte
}

// do does the same to both, and tells the call and what the model answers.
func (m *model) do(d *disk.Disk, kind, n, at int, b []byte) (string, api.Errno, api.Errno) {
	by := byte(at * 7)
	all := slices.Concat(m.synced, m.tail)
	want := api.OK
	switch kind {
	case 0:
		m.tail = append(m.tail, b...)
		return fmt.Sprintf("Write(%q)", b), d.Write(b), want
	case 1:
		m.synced, m.tail = all, nil
		return "Sync", d.Sync(), want
	case 2:
		m.tail = m.tail[:max(0, min(n, len(m.tail)))]
		if at >= 0 && at < len(m.tail) {
			m.tail[at] ^= by
		}
		return fmt.Sprintf("Crash(%d, %d, %d)", n, at, by), d.Crash(n, at, by), want
	case 3:
		if n >= 0 && n <= len(all) {
			m.synced, m.tail = all[:n], nil
		} else {
			want = api.ErrRange
		}
		return fmt.Sprintf("Cut(%d)", n), d.Cut(n), want
	}
	if at >= 0 && at < len(m.synced) {
		m.synced[at] ^= by
	} else {
		want = api.ErrRange
	}
	return fmt.Sprintf("Spoil(%d, %d)", at, by), d.Spoil(at, by), want
}

// P4.1: long rows of calls, against the model.
func TestRowsOfCalls(t *testing.T) {
	x := uint32(4)
	draw := func(n int) int {
		x = x*1664525 + 1013904223
		return int(x>>8) % n
	}
	for range 300 {
		d, m := disk.New(), &model{}
		for range 60 {
			b := make([]byte, draw(6))
			for i := range b {
				b[i] = byte(draw(256))
			}
			kind := []int{0, 0, 0, 1, 2, 3, 4, 4}[draw(8)]
			n := draw(d.Len()+4) - 2
			if kind == 3 && draw(3) > 0 {
				n = d.Len() - draw(3) // so that it isn't cut to nothing all the time
			}
			call, got, want := m.do(d, kind, n, draw(d.Len()+4)-2, b)
			mustAnswer(t, call, got, want)
			mustHave(t, d, string(m.synced), string(m.tail))
			if t.Failed() {
				t.Fatal("behind", call)
			}
		}
	}
}
