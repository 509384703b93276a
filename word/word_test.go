package word_test

import (
	"bytes"
	"math"
	"slices"
	"strings"
	"testing"

	"kissinggate/word"
)

// P1.1: what each number is as bytes.
func TestIntBytes(t *testing.T) {
	for _, c := range []struct {
		n    int
		want []byte
	}{
		{0, []byte{0, 0, 0, 0, 0, 0, 0, 0}},
		{1, []byte{0, 0, 0, 0, 0, 0, 0, 1}},
		{255, []byte{0, 0, 0, 0, 0, 0, 0, 255}},
		{258, []byte{0, 0, 0, 0, 0, 0, 1, 2}},
		{0x0102030405060708, []byte{1, 2, 3, 4, 5, 6, 7, 8}},
		{math.MaxInt, []byte{127, 255, 255, 255, 255, 255, 255, 255}},
		{-1, []byte{255, 255, 255, 255, 255, 255, 255, 255}},
		{-258, []byte{255, 255, 255, 255, 255, 255, 254, 254}},
		{math.MinInt, []byte{128, 0, 0, 0, 0, 0, 0, 0}},
	} {
		if got := word.Int(nil, c.n); !bytes.Equal(got, c.want) {
			t.Errorf("Int(nil, %d): %v, not %v", c.n, got, c.want)
		}
		if got := word.Int([]byte("ab"), c.n); !bytes.Equal(got, append([]byte("ab"), c.want...)) {
			t.Errorf("Int(ab, %d): %v", c.n, got)
		}
	}
}

// P1.1: what each text is as bytes, the longest ones among them.
func TestTextBytes(t *testing.T) {
	for _, c := range []struct {
		s     string
		count []byte
		kept  int
	}{
		{"", []byte{0, 0}, 0},
		{"hi", []byte{0, 2}, 2},
		{"\x00\xff\x80", []byte{0, 3}, 3},
		{strings.Repeat("x", 258), []byte{1, 2}, 258},
		{strings.Repeat("x", 65534) + "y", []byte{255, 255}, 65535},
		{strings.Repeat("x", 65534) + "yz", []byte{255, 255}, 65535},
		{strings.Repeat("xy", 70000), []byte{255, 255}, 65535},
	} {
		want := slices.Concat([]byte("ab"), c.count, []byte(c.s[:c.kept]))
		if got := word.Text([]byte("ab"), c.s); !bytes.Equal(got, want) {
			t.Errorf("a text of %d bytes: %d bytes came, not %d, or other ones", len(c.s), len(got), len(want))
		}
		if got := word.Text(nil, c.s); !bytes.Equal(got, want[2:]) {
			t.Errorf("a text of %d bytes, behind nothing: %d bytes came", len(c.s), len(got))
		}
	}
}

func TestBoolBytes(t *testing.T) {
	for _, c := range []struct {
		b    []byte
		yes  bool
		want []byte
	}{
		{nil, false, []byte{0}},
		{nil, true, []byte{1}},
		{[]byte{9}, false, []byte{9, 0}},
		{[]byte{9}, true, []byte{9, 1}},
	} {
		if got := word.Bool(c.b, c.yes); !bytes.Equal(got, c.want) {
			t.Errorf("Bool(%v, %v): %v", c.b, c.yes, got)
		}
	}
}

// What is put shares no memory with what was handed in, nor with another answer, and leaves it as it was, its spare room too.
func TestPutSharesNothing(t *testing.T) {
	puts := map[string]func([]byte) []byte{
		"Int":   func(b []byte) []byte { return word.Int(b, -1) },
		"Text":  func(b []byte) []byte { return word.Text(b, "\x07\x07") },
		"Empty": func(b []byte) []byte { return word.Text(b, "") },
		"Bool":  func(b []byte) []byte { return word.Bool(b, true) },
	}
	for name, put := range puts {
		room := bytes.Repeat([]byte{42}, 64)
		in := room[:3]
		one, two := put(in), put(in)
		if !bytes.Equal(room, bytes.Repeat([]byte{42}, 64)) {
			t.Errorf("%s wrote into what was handed in: %v", name, room)
		}
		for i := range one {
			one[i] = 99
		}
		if room[0] != 42 || two[0] != 42 || two[len(two)-1] == 99 {
			t.Errorf("%s: an answer shares memory", name)
		}
	}
}

func TestReaderInt(t *testing.T) {
	for _, c := range []struct {
		n, least, most, want int
		fails                bool
	}{
		{5, 0, 9, 5, false},
		{5, 5, 5, 5, false},
		{5, 5, 9, 5, false},
		{5, 0, 5, 5, false},
		{5, 6, 9, 0, true},
		{5, 0, 4, 0, true},
		{5, 9, 0, 0, true},
		{5, 6, 4, 0, true},
		{0, 1, 9, 0, true},
		{-1, -1, -1, -1, false},
		{-1, 0, math.MaxInt, 0, true},
		{-1, math.MinInt, -2, 0, true},
		{math.MaxInt, math.MinInt, math.MaxInt, math.MaxInt, false},
		{math.MinInt, math.MinInt, math.MaxInt, math.MinInt, false},
		{math.MaxInt, math.MinInt, math.MaxInt - 1, 0, true},
		{math.MinInt, math.MinInt + 1, math.MaxInt, 0, true},
	} {
		r := word.Read(append(word.Int(nil, c.n), 1))
		if got := r.Int(c.least, c.most); got != c.want || r.Fail() != c.fails {
			t.Errorf("%d, from %d to %d: %d, failed %v", c.n, c.least, c.most, got, r.Fail())
		}
		if c.fails {
			mustHaveFailed(t, r)
		} else if r.Left() != 1 || !r.Bool() || !r.Done() {
			t.Errorf("%d, from %d to %d: what is behind it isn't there", c.n, c.least, c.most)
		}
	}
}

func TestReaderText(t *testing.T) {
	for _, c := range []struct {
		s     string
		most  int
		fails bool
	}{
		{"", 0, false},
		{"", math.MaxInt, false},
		{"", -1, true},
		{"", math.MinInt, true},
		{"hi", 2, false},
		{"hi", 3, false},
		{"hi", 1, true},
		{"hi", 0, true},
		{"hi", -1, true},
		{"\x00\xff", 2, false},
		{strings.Repeat("x", 300), 300, false},
		{strings.Repeat("x", 300), 299, true},
		{strings.Repeat("x", 65535), 65535, false},
		{strings.Repeat("x", 65535), 65534, true},
	} {
		r := word.Read(append(word.Text(nil, c.s), 1))
		got := r.Text(c.most)
		if r.Fail() != c.fails {
			t.Errorf("%d bytes, at most %d: failed %v", len(c.s), c.most, r.Fail())
		}
		if c.fails {
			if got != "" {
				t.Errorf("%d bytes, at most %d: it tells %d bytes", len(c.s), c.most, len(got))
			}
			mustHaveFailed(t, r)
		} else if got != c.s || r.Left() != 1 || !r.Bool() || !r.Done() {
			t.Errorf("%d bytes, at most %d: %d bytes, %d left", len(c.s), c.most, len(got), r.Left())
		}
	}
}

func TestReaderBool(t *testing.T) {
	for x := range 256 {
		r := word.Read([]byte{byte(x), 1})
		got := r.Bool()
		if got != (x == 1) || r.Fail() != (x > 1) {
			t.Errorf("%d: %v, failed %v", x, got, r.Fail())
		}
		if x > 1 {
			mustHaveFailed(t, r)
		} else if r.Left() != 1 {
			t.Errorf("%d: %d left", x, r.Left())
		}
	}
}

// Bytes that aren't all there fail the reader, wherever they are cut off.
func TestReaderCutOff(t *testing.T) {
	number, text := word.Int(nil, 0), word.Text(nil, "abc")
	for n := range len(number) {
		r := word.Read(number[:n])
		if r.Left() != n || r.Done() != (n == 0) || r.Fail() {
			t.Errorf("%d bytes: %d left, done %v, failed %v", n, r.Left(), r.Done(), r.Fail())
		}
		if got := r.Int(math.MinInt, math.MaxInt); got != 0 {
			t.Errorf("%d bytes of a number: %d", n, got)
		}
		mustHaveFailed(t, r)
	}
	for n := range len(text) {
		r := word.Read(text[:n])
		if got := r.Text(math.MaxInt); got != "" {
			t.Errorf("%d bytes of a text: %q", n, got)
		}
		mustHaveFailed(t, r)
	}
	r := word.Read(nil)
	if r.Bool() {
		t.Error("a truth of no byte")
	}
	mustHaveFailed(t, r)
}

// The first fault stays: nothing that would be right behind it is told.
func TestReaderStaysFailed(t *testing.T) {
	faults := map[string]func(r *word.Reader){
		"Int below":  func(r *word.Reader) { r.Int(1, 9) },
		"Int above":  func(r *word.Reader) { r.Int(-9, -1) },
		"Text above": func(r *word.Reader) { r.Text(-1) },
		"Text cut":   func(r *word.Reader) { r.Int(0, 0); r.Text(9); r.Bool(); r.Bool(); r.Text(9) },
		"Bool":       func(r *word.Reader) { r.Int(0, 0); r.Text(9); r.Int(0, 1<<60) },
	}
	b := word.Bool(word.Bool(word.Text(word.Int(nil, 0), "hi"), true), true)
	for name, fault := range faults {
		r := word.Read(b)
		fault(r)
		if !r.Fail() {
			t.Errorf("%s: it didn't fail", name)
		}
		mustHaveFailed(t, r)
	}
}

func TestNilReader(t *testing.T) {
	var none *word.Reader
	mustHaveFailed(t, none)
}

// A reader goes over what was handed in, and changes nothing of it; what comes to that later isn't read.
func TestReaderHasItsOwnBytes(t *testing.T) {
	b := word.Bool(word.Text(word.Int(nil, 7), "hi"), true)
	whole := slices.Clone(b)
	r := word.Read(b)
	for i := range b {
		b[i] = 99
	}
	if n, s, yes := r.Int(7, 7), r.Text(2), r.Bool(); n != 7 || s != "hi" || !yes || !r.Done() {
		t.Error("it reads what was changed behind its back:", n, s, yes)
	}
	r, other := word.Read(whole), word.Read(whole)
	r.Int(0, 9)
	r.Text(0)
	if !bytes.Equal(whole, word.Bool(word.Text(word.Int(nil, 7), "hi"), true)) || other.Left() != len(whole) || other.Fail() {
		t.Error("reading changed what was handed in, or another reader")
	}
}

func TestReaderOfNothing(t *testing.T) {
	for _, b := range [][]byte{nil, {}} {
		if r := word.Read(b); r.Fail() || r.Left() != 0 || !r.Done() {
			t.Error("a reader of nothing is done, and didn't fail")
		}
	}
}

// P1.2: what is put is read, all kinds in any order, and nothing is left.
func TestWhatIsPutIsRead(t *testing.T) {
	numbers := []int{0, 1, -1, 255, 256, 65535, 65536, 1 << 40, -(1 << 40), math.MaxInt, math.MinInt}
	for n := 1; n != 0; n *= -3 { // goes round through all sizes and both signs
		numbers = append(numbers, n)
		if len(numbers) > 500 {
			break
		}
	}
	var b []byte
	size := 0
	for i, n := range numbers {
		s := strings.Repeat(string([]byte{byte(i), 0, 255}), i)
		b = word.Bool(word.Text(word.Int(b, n), s), i%3 == 0)
		size += 8 + 2 + len(s) + 1
	}
	if len(b) != size {
		t.Fatalf("%d bytes, not %d", len(b), size)
	}
	r := word.Read(b)
	for i, n := range numbers {
		s := strings.Repeat(string([]byte{byte(i), 0, 255}), i)
		if r.Left() != size || r.Done() {
			t.Fatalf("ahead of the %d-th: %d left, not %d", i, r.Left(), size)
		}
		size -= 8 + 2 + len(s) + 1
		if got := r.Int(math.MinInt, math.MaxInt); got != n {
			t.Fatalf("the %d-th number: %d, not %d", i, got, n)
		}
		if got := r.Text(len(s)); got != s {
			t.Fatalf("the %d-th text: %d bytes", i, len(got))
		}
		if got := r.Bool(); got != (i%3 == 0) {
			t.Fatalf("the %d-th truth: %v", i, got)
		}
	}
	if !r.Done() || r.Fail() || r.Left() != 0 {
		t.Error("it isn't done:", r.Left(), r.Fail())
	}
	r.Bool()
	mustHaveFailed(t, r)
}

// mustHaveFailed: a reader that failed tells nothing any more.
func mustHaveFailed(t *testing.T, r *word.Reader) {
	t.Helper()
	n, s, yes := r.Int(math.MinInt, math.MaxInt), r.Text(math.MaxInt), r.Bool()
	if n != 0 || s != "" || yes || !r.Fail() || r.Left() != 0 || r.Done() {
		t.Errorf("it failed, but tells %d, %q, %v, failed %v, %d left, done %v", n, s, yes, r.Fail(), r.Left(), r.Done())
	}
}
