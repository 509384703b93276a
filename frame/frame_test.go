package frame_test

import (
	"bytes"
	"fmt"
	"hash/crc32"
	"math"
	"slices"
	"testing"

	"kissinggate/api"
	"kissinggate/frame"
)

// framed is a payload's frame, made in another way than the program's.
func framed(payload []byte) []byte {
	n := len(payload)
	b := []byte{byte(n / 256), byte(n % 256), byte(255 - n/256), byte(255 - n%256)}
	b = append(b, payload...)
	sum := crc32.Checksum(payload, crc32.MakeTable(crc32.Castagnoli))
	return append(b, byte(sum), byte(sum>>8), byte(sum>>16), byte(sum>>24))
}

// filled is n bytes, few of them alike.
func filled(n int) []byte {
	b := make([]byte, n)
	x := uint32(n)
	for i := range b {
		x = x*1664525 + 1013904223
		b[i] = byte(x >> 24)
	}
	return b
}

// payloads are of all sizes that the head tells in another way, and of bytes that look like frames.
func payloads() [][]byte {
	l := [][]byte{nil, {}, {0}, {255}, []byte("hi"), {0, 0, 0, 0}, {0, 0, 255, 255, 0, 0, 0, 0}, framed([]byte("within")), bytes.Repeat([]byte{255}, 300)}
	for _, n := range []int{1, 2, 3, 4, 5, 8, 127, 128, 254, 255, 256, 257, 511, 512, 1000, api.MaxPayload - 1, api.MaxPayload} {
		l = append(l, filled(n))
	}
	return l
}

// end cuts b, and what is behind it in memory, so that a call that goes beyond is told.
func end(b []byte, n int) []byte {
	return b[:n:n]
}

// P3.1: the chapter's example, byte by byte.
func TestTheExample(t *testing.T) {
	b, fault := frame.Put(nil, []byte("hi"))
	if fault != api.OK || len(b) != 10 || !bytes.Equal(b[:6], []byte{0, 2, 255, 253, 104, 105}) || !bytes.Equal(b, framed([]byte("hi"))) {
		t.Error(b, fault)
	}
}

// P3.1: a frame is put behind whatever bytes, and is taken off again, with whatever bytes behind it.
func TestPutAndTake(t *testing.T) {
	for _, payload := range payloads() {
		want := framed(payload)
		for _, ahead := range [][]byte{nil, {}, {7}, []byte("ahead of it"), framed([]byte("another"))} {
			b, fault := frame.Put(ahead, payload)
			if fault != api.OK || !bytes.Equal(b, slices.Concat(ahead, want)) {
				t.Fatalf("%d bytes behind %d: %d bytes, fault %d", len(payload), len(ahead), len(b), fault)
			}
			behind := slices.Concat(want, ahead)
			got, size, fault := frame.Take(behind)
			if fault != api.OK || size != len(want) || !bytes.Equal(got, payload) {
				t.Fatalf("%d bytes ahead of %d: took %d of %d, fault %d", len(payload), len(ahead), len(got), size, fault)
			}
		}
		if got, fault := frame.Whole(want); fault != api.OK || !bytes.Equal(got, payload) {
			t.Errorf("%d bytes: the whole is %d, fault %d", len(payload), len(got), fault)
		}
		if frame.Size(len(payload)) != len(want) {
			t.Errorf("%d bytes: the size is %d", len(payload), frame.Size(len(payload)))
		}
	}
}

// P3.1: MaxPayload bytes may be, and no more.
func TestTooLongAPayload(t *testing.T) {
	if b, fault := frame.Put([]byte("ahead"), filled(api.MaxPayload)); fault != api.OK || len(b) != 5+api.MaxPayload+8 {
		t.Error("the longest payload:", len(b), fault)
	}
	for _, n := range []int{api.MaxPayload + 1, 65535, 65536, 65536 + 5, 1 << 20} {
		for _, ahead := range [][]byte{nil, []byte("ahead")} {
			if b, fault := frame.Put(ahead, make([]byte, n)); fault != api.ErrLong || len(b) != 0 {
				t.Errorf("%d bytes: put %d, fault %d", n, len(b), fault)
			}
		}
	}
}

func TestSize(t *testing.T) {
	for n, want := range map[int]int{0: 8, 1: 9, 2: 10, 256: 264, api.MaxPayload: api.MaxPayload + 8, api.MaxPayload + 1: api.MaxPayload + 9, -1: 8, -8: 8, -9: 8, math.MinInt: 8} {
		if got := frame.Size(n); got != want {
			t.Errorf("Size(%d): %d, not %d", n, got, want)
		}
	}
}

// faulty is bytes that don't begin with a whole frame, and why.
type faulty struct {
	name  string
	b     []byte
	fault api.Errno
}

// faults has each fault alone, and those of which two are there: the one that the chapter's order has first is told.
func faults() []faulty {
	hi := framed([]byte("hi"))
	wrongSum := slices.Clone(hi)
	wrongSum[9] ^= 1
	reversedSum := []byte{0, 2, 255, 253, 104, 105, hi[9], hi[8], hi[7], hi[6]}
	tooLong := slices.Concat([]byte{16, 1, 239, 254}, framed(filled(api.MaxPayload + 1))[4:])
	return []faulty{
		{"nothing", nil, api.ErrForm},
		{"one byte", end(hi, 1), api.ErrForm},
		{"three bytes", end(hi, 3), api.ErrForm},
		{"four bytes of ten", end(hi, 4), api.ErrForm},
		{"a frame without its last byte", end(hi, 9), api.ErrForm},
		{"no payload, and no sum", []byte{0, 0, 255, 255}, api.ErrForm},
		{"no payload, and three bytes of a sum", []byte{0, 0, 255, 255, 0, 0, 0}, api.ErrForm},
		{"the longest one without its last byte", framed(filled(api.MaxPayload))[:api.MaxPayload+7], api.ErrForm},
		{"the third byte doesn't belong to the first", slices.Concat([]byte{0, 2, 254, 253}, hi[4:]), api.ErrCheck},
		{"the fourth byte doesn't belong to the second", slices.Concat([]byte{0, 2, 255, 254}, hi[4:]), api.ErrCheck},
		{"the length twice", slices.Concat([]byte{0, 2, 0, 2}, hi[4:]), api.ErrCheck},
		{"the lower byte first", slices.Concat([]byte{2, 0, 253, 255}, hi[4:], make([]byte, 600)), api.ErrCheck},
		{"256 less", slices.Concat([]byte{0, 2, 0, 254}, hi[4:]), api.ErrCheck},
		{"nothing but noughts", make([]byte, 20), api.ErrCheck},
		{"nothing but 255", bytes.Repeat([]byte{255}, 20), api.ErrCheck},
		{"a wrong sum", wrongSum, api.ErrCheck},
		{"a sum the highest first", reversedSum, api.ErrCheck},
		{"no payload, and a sum that isn't 0", []byte{0, 0, 255, 255, 0, 0, 0, 1}, api.ErrCheck},
		{"one byte too long, all of it there", tooLong, api.ErrLong},
		{"as long as the head can tell", slices.Concat([]byte{255, 255, 0, 0}, framed(filled(65535))[4:]), api.ErrLong},
		{"three bytes that can't belong together", []byte{9, 9, 9}, api.ErrForm},
		{"three bytes that would be too long", []byte{16, 1, 239}, api.ErrForm},
		{"four bytes that don't belong together, too long", []byte{255, 255, 255, 0}, api.ErrCheck},
		{"they don't belong together, and not all is there", []byte{0, 2, 255, 252}, api.ErrCheck},
		{"too long, and not all is there", []byte{16, 1, 239, 254}, api.ErrLong},
		{"too long, and a wrong sum", slices.Concat(tooLong[:len(tooLong)-1], []byte{tooLong[len(tooLong)-1] + 1}), api.ErrLong},
		{"not all is there, and what is has no such sum", end(wrongSum, 7), api.ErrForm},
	}
}

// P3.1: what isn't a whole frame isn't taken: nothing, 0, and the fault, by Take, Whole and All, and behind frames that are whole.
func TestFaults(t *testing.T) {
	for _, f := range faults() {
		if payload, size, fault := frame.Take(f.b); fault != f.fault || len(payload) != 0 || size != 0 {
			t.Errorf("%s: Take answers %d bytes, %d, %d, not %d", f.name, len(payload), size, fault, f.fault)
		}
		if payload, fault := frame.Whole(f.b); fault != f.fault || len(payload) != 0 {
			t.Errorf("%s: Whole answers %d bytes, %d, not %d", f.name, len(payload), fault, f.fault)
		}
		atAll := f.fault
		if len(f.b) == 0 {
			atAll = api.OK // b ends there
		}
		if l, at, fault := frame.All(f.b); fault != atAll || len(l) != 0 || at != 0 {
			t.Errorf("%s: All answers %d payloads, %d, %d, not %d", f.name, len(l), at, fault, atAll)
		}
		whole := slices.Concat(framed([]byte("one")), framed(nil), framed(filled(300)))
		l, at, fault := frame.All(slices.Concat(whole, f.b))
		if fault != atAll || at != len(whole) || !alike(l, [][]byte{[]byte("one"), nil, filled(300)}) {
			t.Errorf("%s behind three frames: All answers %d payloads, %d, %d, not %d", f.name, len(l), at, fault, atAll)
		}
	}
}

// P3.1: each place at which a frame may be cut off.
func TestCutOff(t *testing.T) {
	for _, payload := range [][]byte{nil, []byte("hi"), filled(40), filled(300)} {
		b := framed(payload)
		for n := range len(b) {
			got, size, fault := frame.Take(end(b, n))
			whole, why := frame.Whole(end(b, n))
			if fault != api.ErrForm || len(got) != 0 || size != 0 || why != api.ErrForm || len(whole) != 0 {
				t.Errorf("%d of %d bytes: %d, %d, %d; %d, %d", n, len(b), len(got), size, fault, len(whole), why)
			}
		}
	}
}

// P3.1: a whole frame has nothing behind; a frame that isn't right is told ahead of that.
func TestSomethingBehindAWholeFrame(t *testing.T) {
	for _, payload := range [][]byte{nil, []byte("hi"), filled(api.MaxPayload)} {
		b := framed(payload)
		for _, behind := range [][]byte{{0}, {255}, b} {
			if got, fault := frame.Whole(slices.Concat(b, behind)); fault != api.ErrForm || len(got) != 0 {
				t.Errorf("%d bytes, and %d behind: %d, fault %d", len(payload), len(behind), len(got), fault)
			}
		}
		wrong := slices.Clone(b)
		wrong[len(wrong)-1]++
		if got, fault := frame.Whole(append(wrong, 0)); fault != api.ErrCheck || len(got) != 0 {
			t.Errorf("%d bytes of a wrong sum, and one behind: %d, fault %d", len(payload), len(got), fault)
		}
	}
}

// P3.1: All takes frames one behind the other, till nothing is left.
func TestAll(t *testing.T) {
	for _, none := range [][]byte{nil, {}} {
		if l, at, fault := frame.All(none); len(l) != 0 || at != 0 || fault != api.OK {
			t.Error("of nothing:", l, at, fault)
		}
	}
	var b []byte
	var want [][]byte
	for _, payload := range payloads() {
		b = append(b, framed(payload)...)
		want = append(want, payload)
		if l, at, fault := frame.All(b); fault != api.OK || at != len(b) || !alike(l, want) {
			t.Fatalf("%d frames: %d payloads, up to %d of %d, fault %d", len(want), len(l), at, len(b), fault)
		}
	}
}

// P3.1: wherever a row of frames is cut off, those that are whole are told, and where the last of them ends.
func TestAllOfARowThatIsCutOff(t *testing.T) {
	row := [][]byte{[]byte("hi"), nil, filled(30), []byte("x")}
	var b []byte
	ends := []int{0}
	for _, payload := range row {
		b = append(b, framed(payload)...)
		ends = append(ends, len(b))
	}
	for n := range len(b) + 1 {
		whole := 0
		for whole < len(row) && ends[whole+1] <= n {
			whole++
		}
		want := api.OK
		if n > ends[whole] {
			want = api.ErrForm
		}
		if l, at, fault := frame.All(end(b, n)); fault != want || at != ends[whole] || !alike(l, row[:whole]) {
			t.Errorf("%d bytes: %d payloads, up to %d, fault %d", n, len(l), at, fault)
		}
	}
}

// P3.1: a row isn't read on behind a frame that isn't right, though one that is comes behind it.
func TestAllEndsAtTheFirstFault(t *testing.T) {
	first, last := framed([]byte("first")), framed([]byte("last"))
	for _, f := range faults() {
		if f.fault == api.ErrForm {
			continue // its missing bytes would be those of the frame behind
		}
		if l, at, fault := frame.All(slices.Concat(first, f.b, last)); fault != f.fault || at != len(first) || !alike(l, [][]byte{[]byte("first")}) {
			t.Errorf("%s amid frames: %d payloads, up to %d, fault %d", f.name, len(l), at, fault)
		}
	}
}

// P3.2: each byte of a frame, each other byte in its stead: neither Take nor Whole nor All reads it.
func TestOneOtherByte(t *testing.T) {
	first := framed([]byte("first"))
	for _, payload := range [][]byte{nil, {0}, {255, 255}, []byte("hi"), make([]byte, 12), filled(40), filled(256), filled(260)} {
		b := framed(payload)
		for i := range b {
			for by := 1; by < 256; by++ {
				b[i] ^= byte(by)
				where := fmt.Sprintf("%d bytes, the one at %d turned by %d", len(payload), i, by)
				mustNotBeRead(t, where, b)
				if l, at, fault := frame.All(append(slices.Clone(first), b...)); fault == api.OK || at != len(first) || len(l) != 1 {
					t.Errorf("%s: All answers %d payloads, %d, %d", where, len(l), at, fault)
				}
				b[i] ^= byte(by)
			}
		}
	}
}

// P3.2: some of the bytes of the longest frame.
func TestOneOtherByteOfTheLongest(t *testing.T) {
	b := framed(filled(api.MaxPayload))
	for i := range b {
		if i > 8 && i < len(b)-8 && i%97 != 0 {
			continue
		}
		for _, by := range []byte{1, 128, 255} {
			b[i] ^= by
			mustNotBeRead(t, fmt.Sprintf("the longest, the byte at %d turned by %d", i, by), b)
			b[i] ^= by
		}
	}
}

// P3.2: a frame that is spoilt isn't read, even if the bytes behind it would make up for a greater length.
func TestOneOtherByteAheadOfMore(t *testing.T) {
	b := slices.Concat(framed([]byte("hi")), bytes.Repeat(framed([]byte("more")), 600))
	for i := range 10 {
		for by := 1; by < 256; by++ {
			b[i] ^= byte(by)
			if payload, size, fault := frame.Take(b); fault == api.OK || len(payload) != 0 || size != 0 {
				t.Errorf("the byte at %d turned by %d: %q, %d, %d", i, by, payload, size, fault)
			}
			b[i] ^= byte(by)
		}
	}
}

// No answer shares memory with what was handed in, or with another answer, and nothing that was handed in is changed.
func TestNoMemoryIsShared(t *testing.T) {
	ahead := append(make([]byte, 0, 100), "ahead"...)
	room := ahead[:100]
	payload := []byte("payload")
	b, _ := frame.Put(ahead, payload)
	other, _ := frame.Put(ahead, []byte("another"))
	if string(room[:5]) != "ahead" || !bytes.Equal(room[5:], make([]byte, 95)) || string(payload) != "payload" {
		t.Error("Put changed what was handed in")
	}
	scribble(b)
	if string(ahead) != "ahead" || string(payload) != "payload" || !bytes.Equal(other[5:], framed([]byte("another"))) {
		t.Error("what Put answers is shared")
	}

	row := slices.Concat(framed([]byte("one")), framed([]byte("two")), framed([]byte("three")))
	was := slices.Clone(row)
	taken, _, _ := frame.Take(row)
	whole, _ := frame.Whole(end(row, 11))
	l, _, _ := frame.All(row)
	scribble(taken)
	scribble(whole)
	_ = append(l[0], "behind the first payload"...)
	scribble(l[1])
	if !bytes.Equal(row, was) || string(l[0]) != "one" || string(l[2]) != "three" {
		t.Error("what Take, Whole or All answer is shared")
	}
	scribble(row)
	if string(l[0]) != "one" || string(l[2]) != "three" {
		t.Error("All's payloads change with the bytes that were handed in")
	}
}

// scribble writes over bytes, and over the room behind them.
func scribble(b []byte) {
	b = b[:cap(b)]
	for i := range b {
		b[i] = '#'
	}
}

func mustNotBeRead(t *testing.T, where string, b []byte) {
	t.Helper()
	if payload, size, fault := frame.Take(b); fault == api.OK || len(payload) != 0 || size != 0 {
		t.Errorf("%s: Take answers %d bytes, %d, %d", where, len(payload), size, fault)
	}
	if payload, fault := frame.Whole(b); fault == api.OK || len(payload) != 0 {
		t.Errorf("%s: Whole answers %d bytes, %d", where, len(payload), fault)
	}
}

// alike: the same payloads; of none, what is nil and what is empty are one.
func alike(l, want [][]byte) bool {
	return slices.EqualFunc(l, want, bytes.Equal)
}
