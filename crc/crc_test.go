package crc_test

import (
	"bytes"
	"hash/crc32"
	"slices"
	"strings"
	"testing"

	"kissinggate/crc"
)

// samples are bytes of many lengths and kinds.
func samples() [][]byte {
	l := [][]byte{nil, {}, {0}, {255}, {0, 0, 0, 0}, []byte("123456789"), bytes.Repeat([]byte{255}, 32), []byte(strings.Repeat("kissing gate ", 400))}
	x := uint32(1)
	for n := range 300 {
		b := make([]byte, n)
		for i := range b {
			x = x*1664525 + 1013904223
			b[i] = byte(x >> 24)
		}
		l = append(l, b)
	}
	return l
}

// P2.1: Of and Sum against sums that are known, and against another maker of them.
func TestSums(t *testing.T) {
	for s, want := range map[string]uint32{
		"":          0,
		"\x00":      0x527D5351,
		"a":         0xC1D04330,
		"123456789": 0xE3069283,
		"\x00\x00\x00\x00\x00\x00\x00\x00\x00\x00\x00\x00\x00\x00\x00\x00\x00\x00\x00\x00\x00\x00\x00\x00\x00\x00\x00\x00\x00\x00\x00\x00": 0x8A9136AA,
	} {
		if got := crc.Of([]byte(s)); got != want {
			t.Errorf("Of(%q): %#x, not %#x", s, got, want)
		}
		if got := crc.New().Sum([]byte(s)); got != want {
			t.Errorf("Sum(%q): %#x, not %#x", s, got, want)
		}
	}
	other := crc32.MakeTable(crc32.Castagnoli)
	x := crc.New()
	for _, b := range samples() {
		want := crc32.Checksum(b, other)
		if crc.Of(b) != want || x.Sum(b) != want || x.Sum(b) != want {
			t.Errorf("%d bytes: %#x, %#x, not %#x", len(b), crc.Of(b), x.Sum(b), want)
		}
	}
}

// P2.1: Add goes on, wherever bytes are cut in two, and in three.
func TestAdd(t *testing.T) {
	x := crc.New()
	for _, b := range [][]byte{nil, []byte("1"), []byte("123456789"), bytes.Repeat([]byte{0, 255, 7}, 30)} {
		for i := range len(b) + 1 {
			if got := x.Add(x.Sum(b[:i]), b[i:]); got != crc.Of(b) {
				t.Errorf("%d bytes, cut at %d: %#x", len(b), i, got)
			}
			for j := range i + 1 {
				if got := x.Add(x.Add(crc.Of(b[:j]), b[j:i]), b[i:]); got != crc.Of(b) {
					t.Errorf("%d bytes, cut at %d and %d: %#x", len(b), j, i, got)
				}
			}
		}
	}
	for _, sum := range []uint32{0, 1, 0xE3069283, 0xFFFFFFFF} {
		if got := x.Add(sum, nil); got != sum {
			t.Errorf("nothing behind %#x: %#x", sum, got)
		}
	}
}

// P2.1: a table's numbers are made at its first sum, whichever call asks for it, and once.
func TestMade(t *testing.T) {
	asks := map[string]func(x *crc.Table){
		"Sum":            func(x *crc.Table) { x.Sum([]byte("a")) },
		"Sum of nothing": func(x *crc.Table) { x.Sum(nil) },
		"Add":            func(x *crc.Table) { x.Add(7, []byte("a")) },
		"Add of nothing": func(x *crc.Table) { x.Add(7, nil) },
	}
	for name, ask := range asks {
		x, other := crc.New(), crc.New()
		crc.Of([]byte("a"))
		if x.Made() != 0 || x.Made() != 0 {
			t.Errorf("%s: made %d times ahead of the first sum", name, x.Made())
		}
		for range 3 {
			ask(x)
			if x.Made() != 1 {
				t.Errorf("%s: made %d times", name, x.Made())
			}
		}
		if other.Made() != 0 {
			t.Errorf("%s: another table's were made, too", name)
		}
	}
}

func TestNilTable(t *testing.T) {
	var none *crc.Table
	if none.Made() != 0 || none.Sum([]byte("a")) != 0 || none.Add(7, []byte("a")) != 0 || none.Add(7, nil) != 0 || none.Made() != 0 {
		t.Error("a nil table tells something")
	}
}

func TestBytes(t *testing.T) {
	for sum, want := range map[uint32][]byte{
		0:          {0, 0, 0, 0},
		1:          {1, 0, 0, 0},
		0x01020304: {4, 3, 2, 1},
		0xE3069283: {0x83, 0x92, 0x06, 0xE3},
		0xFFFFFFFF: {255, 255, 255, 255},
		0x80000000: {0, 0, 0, 128},
	} {
		got := crc.Bytes(sum)
		if !bytes.Equal(got, want) {
			t.Errorf("Bytes(%#x): %v", sum, got)
		}
		got[0]++
		if !bytes.Equal(crc.Bytes(sum), want) {
			t.Errorf("Bytes(%#x): two answers share memory", sum)
		}
	}
}

func TestCheck(t *testing.T) {
	for _, b := range samples() {
		sum := crc.Bytes(crc.Of(b))
		if !crc.Check(b, sum) {
			t.Errorf("%d bytes: their sum isn't theirs", len(b))
		}
		for i := range sum {
			for bit := range 8 {
				other := slices.Clone(sum)
				other[i] ^= 1 << bit
				if crc.Check(b, other) {
					t.Errorf("%d bytes: another sum is theirs", len(b))
				}
			}
		}
		for _, wrong := range [][]byte{nil, {}, sum[:3], sum[1:], append(slices.Clone(sum), 0), append([]byte{0}, sum...)} {
			if crc.Check(b, wrong) {
				t.Errorf("%d bytes: a sum of %d bytes is theirs", len(b), len(wrong))
			}
		}
	}
	if crc.Check([]byte("123456789"), []byte{0xE3, 0x06, 0x92, 0x83}) {
		t.Error("a sum with the highest byte first is right")
	}
}

// P2.2: one byte that is another one makes another sum, each place and each other byte.
func TestOneOtherByte(t *testing.T) {
	x := crc.New()
	for _, b := range [][]byte{{0}, []byte("hi"), []byte("123456789"), make([]byte, 50), bytes.Repeat([]byte{255, 1}, 40)} {
		sum := crc.Of(b)
		for i := range b {
			for by := 1; by < 256; by++ {
				other := slices.Clone(b)
				other[i] ^= byte(by)
				if crc.Of(other) == sum || x.Sum(other) == sum || crc.Check(other, crc.Bytes(sum)) {
					t.Fatalf("%d bytes: the sum stays when the one at %d is turned by %d", len(b), i, by)
				}
			}
		}
	}
}

func TestNothingHandedInIsChanged(t *testing.T) {
	b, sum := []byte("123456789"), []byte{0x83, 0x92, 0x06, 0xE3}
	x := crc.New()
	crc.Of(b)
	x.Sum(b)
	x.Add(5, b)
	crc.Check(b, sum)
	if string(b) != "123456789" || !bytes.Equal(sum, []byte{0x83, 0x92, 0x06, 0xE3}) {
		t.Error("what was handed in was changed:", b, sum)
	}
}
