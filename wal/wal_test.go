package wal_test

import (
	"bytes"
	"fmt"
	"hash/crc32"
	"math"
	"slices"
	"testing"

	"kissinggate/api"
	"kissinggate/disk"
	"kissinggate/wal"
)

// framed is a payload's frame, made in another way than the program's.
func framed(payload []byte) []byte {
	n := len(payload)
	b := []byte{byte(n / 256), byte(n % 256), byte(255 - n/256), byte(255 - n%256)}
	b = append(b, payload...)
	sum := crc32.Checksum(payload, crc32.MakeTable(crc32.Castagnoli))
	return append(b, byte(sum), byte(sum>>8), byte(sum>>16), byte(sum>>24))
}

// row is the frames of records, one behind the other.
func row(l []wal.Record) []byte {
	var b []byte
	for _, r := range l {
		b = append(b, framed(append([]byte{r.Kind}, r.Data...))...)
	}
	return b
}

// filled is n bytes, few of them alike.
func filled(n int) []byte {
	b := make([]byte, n)
	x := uint32(n)
	for i := range b {
		x = x*1664525 + 1013904223
		b[i] = byte(x >> 24)
	}
	return b
}

// samples are of the least and the greatest kind and of others, with no bytes, few, and as many as may be.
func samples() []wal.Record {
	return []wal.Record{
		{1, []byte("first")}, {255, []byte("second")}, {1, nil}, {255, []byte{}}, {2, []byte{0}}, {128, []byte{0, 0, 255, 255, 0, 0, 0, 0}},
		{7, framed([]byte("\x01within"))}, {3, filled(300)}, {1, filled(254)}, {1, filled(255)}, {9, filled(api.MaxPayload - 2)}, {255, filled(api.MaxPayload - 1)}, {4, []byte("last")},
	}
}

// alike: the same records; what is nil and what is empty are one.
func alike(l, want []wal.Record) bool {
	return slices.EqualFunc(l, want, func(a, b wal.Record) bool {
		return a.Kind == b.Kind && bytes.Equal(a.Data, b.Data)
	})
}

// told is records in few words.
func told(l []wal.Record) string {
	s := fmt.Sprint(len(l), ":")
	for _, r := range l {
		s += fmt.Sprintf(" %d %.12q(%d)", r.Kind, r.Data, len(r.Data))
	}
	return s
}

// with is a disk of these bytes, the first synced and the others its tail.
func with(t *testing.T, synced, tail []byte) *disk.Disk {
	t.Helper()
	d := disk.New()
	for _, fault := range []api.Errno{d.Write(synced), d.Sync(), d.Write(tail)} {
		mustAnswer(t, "making a disk", fault, api.OK)
	}
	mustHave(t, "a disk that was made", d, synced, tail)
	return d
}

// mustHave: the disk's bytes are these, and no others.
func mustHave(t *testing.T, where string, d *disk.Disk, synced, tail []byte) {
	t.Helper()
	if b := d.Bytes(); !bytes.Equal(b, slices.Concat(synced, tail)) || d.Synced() != len(synced) {
		t.Errorf("%s: the disk has %d bytes, %d synced, not %d and %d, or other ones", where, len(b), d.Synced(), len(synced), len(tail))
	}
}

// mustAnswer: a call's answer is this one.
func mustAnswer(t *testing.T, call string, got, want api.Errno) {
	t.Helper()
	if got != want {
		t.Errorf("%s: it answers %d, not %d", call, got, want)
	}
}

// mustRead: Read answers these records, where the last one ends, and why it isn't read on.
func mustRead(t *testing.T, where string, b []byte, want []wal.Record, end int, fault api.Errno) {
	t.Helper()
	l, at, why := wal.Read(b)
	if !alike(l, want) || at != end || why != fault {
		t.Errorf("%s: Read answers %s, %d, %d, not %s, %d, %d", where, told(l), at, why, told(want), end, fault)
	}
}

// mustRecover: Recover answers these records, and the disk has their frames, synced, and nothing else; so does it once more.
func mustRecover(t *testing.T, where string, d *disk.Disk, want []wal.Record) {
	t.Helper()
	for _, when := range []string{"", ", again"} {
		l, fault := wal.Recover(d)
		if !alike(l, want) || fault != api.OK {
			t.Errorf("%s%s: Recover answers %s, %d, not %s", where, when, told(l), fault, told(want))
		}
		mustHave(t, where+when, d, row(want), nil)
	}
}

// mustNotRecover: Recover tells that what is synced isn't right, and no record, and the disk stays as it was.
func mustNotRecover(t *testing.T, where string, d *disk.Disk) {
	t.Helper()
	b, synced := d.Bytes(), d.Synced()
	if l, fault := wal.Recover(d); len(l) != 0 || fault != api.ErrCheck {
		t.Errorf("%s: Recover answers %s, %d", where, told(l), fault)
	}
	mustHave(t, where, d, b[:synced], b[synced:])
}

// P5.1: the chapter's example.
func TestTheExample(t *testing.T) {
	first, second := wal.Record{Kind: 1, Data: []byte("first")}, wal.Record{Kind: 2, Data: []byte("second")}
	d := disk.New()
	mustAnswer(t, "Append", wal.Append(d, first), api.OK)
	mustAnswer(t, "Sync", d.Sync(), api.OK)
	mustAnswer(t, "Append", wal.Append(d, second), api.OK)
	mustAnswer(t, "Crash", d.Crash(7, -1, 0), api.OK)
	mustRecover(t, "a crash amid the second one", d, []wal.Record{first})
}

// P5.1: a record's bytes, one by one.
func TestBytesOfOne(t *testing.T) {
	b, fault := wal.Bytes(wal.Record{Kind: 7, Data: []byte("hi")})
	mustAnswer(t, "Bytes", fault, api.OK)
	if len(b) != 11 || !bytes.Equal(b[:7], []byte{0, 3, 255, 252, 7, 'h', 'i'}) || !bytes.Equal(b, framed([]byte("\x07hi"))) {
		t.Error(b)
	}
}

// P5.1: each kind, and each size that the head tells in another way.
func TestBytes(t *testing.T) {
	for kind := 1; kind < 256; kind++ {
		for _, data := range [][]byte{nil, {}, []byte("data")} {
			r := wal.Record{Kind: byte(kind), Data: data}
			b, fault := wal.Bytes(r)
			if fault != api.OK || !bytes.Equal(b, row([]wal.Record{r})) {
				t.Errorf("of the kind %d, %d bytes: %d, fault %d", kind, len(data), len(b), fault)
			}
		}
	}
	for _, n := range []int{0, 1, 2, 253, 254, 255, 256, 1000, api.MaxPayload - 2, api.MaxPayload - 1} {
		r := wal.Record{Kind: 200, Data: filled(n)}
		b, fault := wal.Bytes(r)
		if fault != api.OK || !bytes.Equal(b, row([]wal.Record{r})) {
			t.Errorf("of %d bytes: %d, fault %d", n, len(b), fault)
		}
		mustRead(t, fmt.Sprintf("of %d bytes", n), b, []wal.Record{r}, n+9, api.OK)
	}
}

// P5.1: what isn't a record has no bytes, and isn't appended: the kind is told ahead of the length.
func TestWhatIsNoRecord(t *testing.T) {
	for _, c := range []struct {
		kind  byte
		n     int
		fault api.Errno
	}{
		{0, 0, api.ErrArg}, {0, 5, api.ErrArg}, {0, api.MaxPayload - 1, api.ErrArg}, {0, api.MaxPayload, api.ErrArg}, {0, 1 << 20, api.ErrArg},
		{1, api.MaxPayload, api.ErrLong}, {255, api.MaxPayload, api.ErrLong}, {1, api.MaxPayload + 1, api.ErrLong},
		{1, 65535, api.ErrLong}, {1, 65536, api.ErrLong}, {1, 65536 + 5, api.ErrLong}, {9, 1 << 20, api.ErrLong}, {9, 1<<20 + 1, api.ErrLong},
	} {
		r := wal.Record{Kind: c.kind, Data: make([]byte, c.n)}
		where := fmt.Sprintf("of the kind %d, %d bytes", c.kind, c.n)
		if b, fault := wal.Bytes(r); fault != c.fault || len(b) != 0 {
			t.Errorf("%s: Bytes answers %d, %d, not %d", where, len(b), fault, c.fault)
		}
		d := with(t, []byte("synced"), []byte("tail"))
		mustAnswer(t, where+": Append", wal.Append(d, r), c.fault)
		mustHave(t, where, d, []byte("synced"), []byte("tail"))
		full := with(t, nil, make([]byte, api.MaxDisk))
		mustAnswer(t, where+": Append to a full disk", wal.Append(full, r), c.fault)
		mustAnswer(t, where+": Append to no disk", wal.Append(nil, r), api.ErrArg)
	}
}

// P5.1: no disk is told ahead of all, by Append and by Recover.
func TestNoDisk(t *testing.T) {
	for _, r := range []wal.Record{{}, {1, nil}, {255, []byte("data")}, {0, []byte("data")}, {1, filled(api.MaxPayload)}} {
		mustAnswer(t, "Append", wal.Append(nil, r), api.ErrArg)
	}
	if l, fault := wal.Recover(nil); len(l) != 0 || fault != api.ErrArg {
		t.Error("Recover answers", told(l), fault)
	}
}

// P5.1: what is appended comes behind all that the disk has, whatever that is, as tail.
func TestAppend(t *testing.T) {
	d := disk.New()
	for i, r := range samples() {
		mustAnswer(t, "Append", wal.Append(d, r), api.OK)
		mustHave(t, "records that were appended", d, nil, row(samples()[:i+1]))
	}
	mustRecover(t, "all of them", d, samples())

	d = with(t, []byte("no"), []byte("frame"))
	mustAnswer(t, "Append", wal.Append(d, samples()[0]), api.OK)
	mustHave(t, "behind what is no frame", d, []byte("no"), append([]byte("frame"), row(samples()[:1])...))
}

// P5.1: where no room is left for all of a frame, nothing is written.
func TestAFullDisk(t *testing.T) {
	for _, n := range []int{0, 5, api.MaxPayload - 1} {
		r := wal.Record{Kind: 1, Data: filled(n)}
		frame := row([]wal.Record{r})
		for _, room := range []int{0, 1, len(frame) - 1} {
			rest := make([]byte, api.MaxDisk-room-3)
			d := with(t, []byte("syn"), rest)
			mustAnswer(t, fmt.Sprintf("Append of %d bytes to a room of %d", len(frame), room), wal.Append(d, r), api.ErrFull)
			mustHave(t, "a full disk", d, []byte("syn"), rest)
		}
		rest := make([]byte, api.MaxDisk-len(frame)-3)
		d := with(t, []byte("syn"), rest)
		mustAnswer(t, "Append to a room that is just enough", wal.Append(d, r), api.OK)
		mustHave(t, "a disk that is full now", d, []byte("syn"), append(rest, frame...))
		mustAnswer(t, "Append of the least record", wal.Append(d, wal.Record{Kind: 1}), api.ErrFull)
	}
}

// P5.1: a disk full of records, the longest ones, and one of the shortest behind.
func TestRecoverAFullDisk(t *testing.T) {
	d := disk.New()
	long, short := wal.Record{Kind: 255, Data: filled(api.MaxPayload - 1)}, wal.Record{Kind: 1}
	var want []wal.Record
	for _, r := range []wal.Record{long, short} {
		for len(want) < 2*api.MaxPayload && wal.Append(d, r) == api.OK {
			want = append(want, r)
		}
	}
	if len(want) < api.MaxDisk/(api.MaxPayload+8) || api.MaxDisk-d.Len() >= 9 {
		t.Fatal("the disk isn't full:", len(want), d.Len())
	}
	mustRecover(t, "a full disk", d, want)
}

// P5.1: records are read one behind the other, till nothing is left.
func TestRead(t *testing.T) {
	mustRead(t, "nothing", nil, nil, 0, api.OK)
	mustRead(t, "nothing", []byte{}, nil, 0, api.OK)
	for n := range samples() {
		l := samples()[:n+1]
		mustRead(t, "whole records", row(l), l, len(row(l)), api.OK)
	}
}

// faulty is bytes at which reading ends, and why.
type faulty struct {
	name  string
	b     []byte
	fault api.Errno
}

// torn are frames that aren't all there.
func torn() []faulty {
	b := framed([]byte("\x05five"))
	return []faulty{
		{"a byte", b[:1:1], api.ErrForm},
		{"three bytes of a frame", b[:3:3], api.ErrForm},
		{"the head of a frame", b[:4:4], api.ErrForm},
		{"a frame up to its kind", b[:5:5], api.ErrForm},
		{"a frame without its last byte", b[: len(b)-1 : len(b)-1], api.ErrForm},
	}
}

// spoilt are frames that aren't right, and whole ones that are no records, whatever comes behind them.
func spoilt() []faulty {
	b := framed([]byte("\x05five"))
	wrongSum, wrongKind, wrongHead := slices.Clone(b), slices.Clone(b), slices.Clone(b)
	wrongSum[len(b)-1] ^= 1
	wrongKind[4] = 6
	wrongHead[2] ^= 1
	tooLong := slices.Concat([]byte{16, 1, 239, 254}, framed(append([]byte{1}, filled(api.MaxPayload)...))[4:])
	return []faulty{
		{"a frame with a wrong sum", wrongSum, api.ErrCheck},
		{"a frame with another kind", wrongKind, api.ErrCheck},
		{"a frame with a wrong head", wrongHead, api.ErrCheck},
		{"nothing but noughts", make([]byte, 30), api.ErrCheck},
		{"a frame that is too long", tooLong, api.ErrLong},
		{"a frame without a payload", framed(nil), api.ErrForm},
		{"a frame of the kind 0", framed([]byte{0}), api.ErrForm},
		{"a frame of the kind 0, with data", framed([]byte("\x00data")), api.ErrForm},
		{"the longest frame of the kind 0", framed(make([]byte, api.MaxPayload)), api.ErrForm},
	}
}

func faults() []faulty {
	return append(torn(), spoilt()...)
}

// P5.1: reading ends at the first that isn't a record, wherever it comes, and tells why.
func TestReadUpToAFault(t *testing.T) {
	for _, f := range faults() {
		for n := range len(samples()) + 1 {
			l := samples()[:n]
			ahead := row(l)
			mustRead(t, fmt.Sprintf("%s behind %d records", f.name, n), slices.Concat(ahead, f.b), l, len(ahead), f.fault)
		}
	}
}

// P5.1: behind a fault nothing is looked at, be it whole or faulty in another way.
func TestReadStopsAtTheFirstFault(t *testing.T) {
	l := samples()[:3]
	for _, f := range spoilt() { // not torn: the bytes behind would be taken for the missing ones
		for _, behind := range append(faults(), faulty{"a whole record", row(samples()[:1]), api.OK}) {
			where := fmt.Sprintf("%s ahead of %s", f.name, behind.name)
			mustRead(t, where, slices.Concat(f.b, behind.b), nil, 0, f.fault)
			mustRead(t, where+", behind records", slices.Concat(row(l), f.b, behind.b), l, len(row(l)), f.fault)
		}
	}
}

// P5.1: wherever a row of records is cut off, the whole ones are told.
func TestReadOfARowThatIsCutOff(t *testing.T) {
	l := samples()[:9]
	b := row(l)
	for n := range len(b) + 1 {
		whole := wholeWithin(l, n)
		fault := api.OK
		if n > len(row(whole)) {
			fault = api.ErrForm
		}
		mustRead(t, fmt.Sprintf("%d bytes of the row", n), b[:n:n], whole, len(row(whole)), fault)
	}
}

// wholeWithin is the first records, as far as the first n bytes of their frames have them whole.
func wholeWithin(l []wal.Record, n int) []wal.Record {
	for k := range l {
		n -= len(l[k].Data) + 9
		if n < 0 {
			return l[:k]
		}
	}
	return l
}

// P5.1: an empty disk has no records, and is right.
func TestRecoverAnEmptyDisk(t *testing.T) {
	mustRecover(t, "a new disk", disk.New(), nil)
	d := with(t, nil, row(samples()[:2]))
	mustAnswer(t, "Crash", d.Crash(0, 0, 0), api.OK)
	mustRecover(t, "a disk that lost all", d, nil)
}

// P5.1: a fault behind what is synced is cut away, one amid it is told; so is one that begins amid it and ends behind.
func TestRecoverAFaultyDisk(t *testing.T) {
	l, more := samples()[:3], samples()[3:5]
	for _, f := range faults() {
		mustRecover(t, f.name+" behind what is synced", with(t, row(l), f.b), l)
		mustRecover(t, f.name+" behind whole records, the first ones synced", with(t, row(l), slices.Concat(row(more), f.b)), samples()[:5])
		mustRecover(t, f.name+" on a disk of which nothing is synced", with(t, nil, slices.Concat(row(l), f.b)), l)
		mustRecover(t, f.name+" alone, not synced", with(t, nil, f.b), nil)
		mustNotRecover(t, f.name+" alone", with(t, f.b, nil))
		mustNotRecover(t, f.name+" ahead of records", with(t, slices.Concat(f.b, row(l)), nil))
		mustNotRecover(t, f.name+" amid records", with(t, slices.Concat(row(l), f.b, row(more)), row(l)))
		mustNotRecover(t, f.name+" at the end of what is synced", with(t, slices.Concat(row(l), f.b), nil))
		mustNotRecover(t, f.name+" ahead of a tail", with(t, slices.Concat(row(l), f.b), row(more)))
		mustNotRecover(t, f.name+" of which one byte is synced", with(t, slices.Concat(row(l), f.b[:1]), f.b[1:]))
		mustNotRecover(t, f.name+" of which all but one byte is synced", with(t, slices.Concat(row(l), f.b), row(more)[:1]))
	}
}

// P5.1: records whose frames the end of what is synced cuts in two are whole, all of them, when the rest is there.
func TestRecoverWithAFrameThatIsHalfSynced(t *testing.T) {
	l := samples()[:6]
	b := row(l)
	for synced := range len(b) + 1 {
		mustRecover(t, fmt.Sprintf("%d bytes synced", synced), with(t, b[:synced], b[synced:]), l)
		d := with(t, b[:synced], b[synced:])
		mustAnswer(t, "Crash", d.Crash(0, 0, 0), api.OK)
		if whole := wholeWithin(l, synced); len(row(whole)) == synced {
			mustRecover(t, fmt.Sprintf("%d bytes alone", synced), d, whole)
		} else {
			mustNotRecover(t, fmt.Sprintf("%d bytes alone", synced), d)
		}
	}
}

// P5.2: each number of records synced, and a crash at each place of the others, with any one of the bytes that stay turned, and with none.
func TestEveryCrash(t *testing.T) {
	l := []wal.Record{{1, []byte("one")}, {255, nil}, {2, []byte{0, 0, 255, 255}}, {7, framed([]byte("\x01in"))}, {3, []byte("last")}}
	for synced := range len(l) + 1 {
		first := len(row(l[:synced]))
		tail := len(row(l)) - first
		for keep := -1; keep <= tail+1; keep++ {
			for at := -1; at <= keep+1; at++ {
				for _, by := range []byte{1, 128, 255} {
					crashed(t, l, synced, keep, at, by)
				}
			}
			crashed(t, l, synced, keep, 0, 0)
			crashed(t, l, synced, keep, math.MinInt, 1)
			crashed(t, l, synced, keep, math.MaxInt, 1)
		}
		crashed(t, l, synced, math.MinInt, -1, 0)
		crashed(t, l, synced, math.MaxInt, -1, 0)
		crashed(t, l, synced, math.MaxInt, tail/2, 3)
	}
}

// crashed: records, the first of them synced, behind that crash: all that were synced are there, and of the others those that end ahead of what was lost or turned; and one that is appended then comes behind them.
func crashed(t *testing.T, l []wal.Record, synced, keep, at int, by byte) {
	t.Helper()
	d := disk.New()
	for i, r := range l {
		if i == synced {
			mustAnswer(t, "Sync", d.Sync(), api.OK)
		}
		mustAnswer(t, "Append", wal.Append(d, r), api.OK)
	}
	if synced == len(l) {
		mustAnswer(t, "Sync", d.Sync(), api.OK)
	}
	right := max(0, min(keep, d.Len()-d.Synced()))
	if at >= 0 && at < right && by != 0 {
		right = at
	}
	want := wholeWithin(l, d.Synced()+right)
	where := fmt.Sprintf("%d of %d synced, Crash(%d, %d, %d)", synced, len(l), keep, at, by)
	mustAnswer(t, where, d.Crash(keep, at, by), api.OK)
	mustRecover(t, where, d, want)
	if len(want) < synced {
		t.Errorf("%s: the test asks for %d", where, len(want))
	}
	behind := wal.Record{Kind: 9, Data: []byte("behind")}
	mustAnswer(t, where+": Append", wal.Append(d, behind), api.OK)
	mustAnswer(t, where+": Sync", d.Sync(), api.OK)
	mustAnswer(t, where+": Crash", d.Crash(0, 0, 0), api.OK)
	mustRecover(t, where+", and one more appended", d, append(slices.Clone(want), behind))
}

// P5.2: a crash amid the longest record, at some of its places.
func TestACrashAmidTheLongest(t *testing.T) {
	l := []wal.Record{{1, []byte("one")}, {255, filled(api.MaxPayload - 1)}, {2, nil}}
	for keep := 0; keep <= api.MaxPayload+30; keep++ {
		if keep > 20 && keep < api.MaxPayload && keep%101 != 0 {
			continue
		}
		crashed(t, l, 1, keep, -1, 0)
		crashed(t, l, 1, keep, keep-1, 4)
		crashed(t, l, 1, keep, keep/2, 64)
	}
}

// P5.2: each synced byte turned by each mask is told, whatever the tail is; turned back it is read again.
func TestEverySpoiltByte(t *testing.T) {
	l, more := []wal.Record{{1, []byte("one")}, {255, nil}, {7, framed([]byte("\x01in"))}}, []wal.Record{{2, []byte("tail")}, {1, nil}}
	for _, tail := range [][]byte{nil, row(more), row(more)[:5], []byte("no frame"), bytes.Repeat(row(more), 40)} {
		for at := range row(l) {
			d := with(t, row(l), tail)
			for by := 1; by < 256; by++ {
				where := fmt.Sprintf("the byte at %d turned by %d, ahead of a tail of %d", at, by, len(tail))
				mustAnswer(t, where, d.Spoil(at, byte(by)), api.OK)
				mustNotRecover(t, where, d)
				mustAnswer(t, where, d.Spoil(at, byte(by)), api.OK)
			}
			if got, fault := wal.Recover(d); fault != api.OK || len(got) < len(l) || !alike(got[:len(l)], l) {
				t.Errorf("the byte at %d turned back: %s, %d", at, told(got), fault)
			}
		}
	}
}

// P5.2: some of the bytes of the longest record, spoilt.
func TestASpoiltByteOfTheLongest(t *testing.T) {
	l := []wal.Record{{1, []byte("one")}, {255, filled(api.MaxPayload - 1)}, {2, nil}}
	d := with(t, row(l), nil)
	for at := range row(l) {
		if at > 20 && at < api.MaxPayload && at%83 != 0 {
			continue
		}
		for _, by := range []byte{1, 16, 128, 255} {
			where := fmt.Sprintf("the byte at %d turned by %d", at, by)
			mustAnswer(t, where, d.Spoil(at, by), api.OK)
			mustNotRecover(t, where, d)
			mustAnswer(t, where, d.Spoil(at, by), api.OK)
		}
	}
	mustRecover(t, "all turned back", d, l)
}

// scribble writes over bytes, and over the room behind them.
func scribble(b []byte) {
	b = b[:cap(b)]
	for i := range b {
		b[i] = '#'
	}
}

// P5.1: Bytes and Append change nothing of a record, keep nothing of it, and no two answers share memory.
func TestWhatIsHandedInIsNotShared(t *testing.T) {
	room := bytes.Repeat([]byte{42}, 64)
	r := wal.Record{Kind: 1, Data: room[:5]}
	was := slices.Clone(room[:5])
	one, _ := wal.Bytes(r)
	two, _ := wal.Bytes(r)
	d := disk.New()
	mustAnswer(t, "Append", wal.Append(d, r), api.OK)
	scribble(one)
	if !bytes.Equal(room, bytes.Repeat([]byte{42}, 64)) {
		t.Error("what was handed in was changed, or is shared")
	}
	scribble(room)
	want := wal.Record{Kind: 1, Data: was}
	if !bytes.Equal(two, row([]wal.Record{want})) {
		t.Error("what Bytes answers is shared")
	}
	mustRecover(t, "a record that was changed behind Append", d, []wal.Record{want})
}

// P5.1: the records that Read and Recover hand out are new memory, each of them.
func TestWhatIsHandedOutIsNotShared(t *testing.T) {
	l := []wal.Record{{1, []byte("one")}, {2, []byte("two")}, {3, []byte("three")}, {4, nil}, {5, []byte("five")}}
	b := row(l)
	d := with(t, b[:20], append(b[20:], "torn"...))
	for _, read := range []func() []wal.Record{
		func() []wal.Record { got, _, _ := wal.Read(b); return got },
		func() []wal.Record { got, _ := wal.Recover(d); return got },
	} {
		got, other := read(), read()
		if !alike(got, l) || !alike(other, l) {
			t.Fatal("not the records:", told(got), told(other))
		}
		for _, i := range []int{1, 3} {
			scribble(got[i].Data)
		}
		_ = append(got[0].Data, "behind the first one"...)
		if !bytes.Equal(b, row(l)) || !alike(other, l) || string(got[0].Data) != "one" || string(got[2].Data) != "three" || string(got[4].Data) != "five" {
			t.Error("what is handed out is shared")
		}
	}
	mustRecover(t, "a disk whose records were changed", d, l)
	got, _, _ := wal.Read(b)
	scribble(b)
	if !alike(got, l) {
		t.Error("records change with the bytes that were read")
	}
}
