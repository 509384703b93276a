package hard_test

import (
	"bytes"
	"encoding/binary"
	"fmt"
	"hash/crc32"
	"math"
	"slices"
	"strings"
	"testing"

	"kissinggate/api"
	"kissinggate/disk"
	"kissinggate/hard"
	"kissinggate/wal"
)

// hardOf is the record of a term and a vote, made in another way than the program's.
func hardOf(term, vote int) wal.Record {
	return wal.Record{Kind: 1, Data: numbers(term, vote)}
}

// entryOf is the record of an entry at an index.
func entryOf(index, term int, data string) wal.Record {
	b := binary.BigEndian.AppendUint16(numbers(index, term), uint16(len(data)))
	return wal.Record{Kind: 2, Data: append(b, data...)}
}

func numbers(l ...int) []byte {
	var b []byte
	for _, n := range l {
		b = binary.BigEndian.AppendUint64(b, uint64(n))
	}
	return b
}

// framesOf is the frames of records, one behind the other.
func framesOf(l []wal.Record) []byte {
	var b []byte
	for _, r := range l {
		payload := append([]byte{r.Kind}, r.Data...)
		n := uint16(len(payload))
		b = binary.BigEndian.AppendUint16(b, n)
		b = binary.BigEndian.AppendUint16(b, ^n)
		b = append(b, payload...)
		b = binary.LittleEndian.AppendUint32(b, crc32.Checksum(payload, crc32.MakeTable(crc32.Castagnoli)))
	}
	return b
}

// atFirst is the state of a node that has kept nothing.
func atFirst() api.State {
	return api.State{Term: 0, Vote: -1}
}

// of is a state of these terms, each entry with data of its own.
func of(term, vote int, terms ...int) api.State {
	s := api.State{Term: term, Vote: vote}
	for i, e := range terms {
		s.Entries = append(s.Entries, api.Entry{Term: e, Data: fmt.Sprint("own ", i, " of ", e)})
	}
	return s
}

// many are n entries of a term, with commands of so many bytes.
func many(n, term, bytes int) []api.Entry {
	return slices.Repeat([]api.Entry{{Term: term, Data: strings.Repeat("m", bytes)}}, n)
}

// whole is what would have to be saved of a state of which nothing is kept.
func whole(s api.State) api.Save {
	return api.Save{Hard: true, Term: s.Term, Vote: s.Vote, From: 1, Entries: s.Entries}
}

// tell is the records of a save, made in another way than the program's.
func tell(s api.Save) []wal.Record {
	var l []wal.Record
	if s.Hard {
		l = append(l, hardOf(s.Term, s.Vote))
	}
	for i, e := range s.Entries {
		l = append(l, entryOf(s.From+i, e.Term, e.Data))
	}
	return l
}

// tellAll is the records of saves, one behind the other.
func tellAll(saves []api.Save) []wal.Record {
	var l []wal.Record
	for _, s := range saves {
		l = append(l, tell(s)...)
	}
	return l
}

func alike(a, b api.State) bool {
	return a.Term == b.Term && a.Vote == b.Vote && slices.Equal(a.Entries, b.Entries)
}

func alikeRecords(a, b []wal.Record) bool {
	return slices.EqualFunc(a, b, func(x, y wal.Record) bool {
		return x.Kind == y.Kind && bytes.Equal(x.Data, y.Data)
	})
}

// told is a state in few words.
func told(s api.State) string {
	if len(s.Entries) > 9 {
		return fmt.Sprintf("{%d %d and %d entries}", s.Term, s.Vote, len(s.Entries))
	}
	return fmt.Sprintf("%.200q", fmt.Sprint(s))
}

func mustAnswer(t *testing.T, call string, got, want api.Errno) {
	t.Helper()
	if got != want {
		t.Errorf("%s: it answers %d, not %d", call, got, want)
	}
}

// mustPlay: Play answers this state, and so it does when it is asked again.
func mustPlay(t *testing.T, where string, l []wal.Record, want api.State) {
	t.Helper()
	for range 2 {
		if s, fault := hard.Play(l); fault != api.OK || !alike(s, want) {
			t.Errorf("%s: Play answers %s, %d, not %s", where, told(s), fault, told(want))
		}
	}
}

// mustNotPlay: Play tells that there is no such state, and nothing of it.
func mustNotPlay(t *testing.T, where string, l []wal.Record) {
	t.Helper()
	if s, fault := hard.Play(l); fault != api.ErrForm || !alike(s, api.State{}) {
		t.Errorf("%s: Play answers %s, %d", where, told(s), fault)
	}
}

// mustRecover: Recover answers this state, and the disk has these records then, synced, and nothing behind; so it does once more.
func mustRecover(t *testing.T, where string, d *disk.Disk, want api.State, has []wal.Record) {
	t.Helper()
	for range 2 {
		if s, fault := hard.Recover(d); fault != api.OK || !alike(s, want) {
			t.Errorf("%s: Recover answers %s, %d, not %s", where, told(s), fault, told(want))
		}
		if b := framesOf(has); !bytes.Equal(d.Bytes(), b) || d.Synced() != len(b) {
			t.Errorf("%s: the disk has %d bytes, %d synced, not %d, or other ones", where, d.Len(), d.Synced(), len(b))
		}
	}
}

// mustNotRecover: Recover answers this fault, and no state.
func mustNotRecover(t *testing.T, where string, d *disk.Disk, want api.Errno) {
	t.Helper()
	if s, fault := hard.Recover(d); fault != want || !alike(s, api.State{}) {
		t.Errorf("%s: Recover answers %s, %d, not %d", where, told(s), fault, want)
	}
}

// with is a disk of these bytes, the first ones synced and the others its tail.
func with(t *testing.T, synced, tail []byte) *disk.Disk {
	t.Helper()
	d := disk.New()
	for _, fault := range []api.Errno{d.Write(synced), d.Sync(), d.Write(tail)} {
		mustAnswer(t, "making a disk", fault, api.OK)
	}
	return d
}

// named is a state, and what it is.
type named struct {
	name string
	s    api.State
}

// rightStates may be: they lie at the edges.
func rightStates() []named {
	longest := strings.Repeat("c", api.MaxCommand)
	return []named{
		{"at first", atFirst()},
		{"voted for the first one", of(0, 0)},
		{"voted for the last one", of(1, api.MaxNodes-1)},
		{"the least term above 0", of(1, -1)},
		{"the greatest term", of(api.MaxTerm, 3)},
		{"the last but one term", of(api.MaxTerm-1, -1)},
		{"one entry, of the state's term", of(1, 0, 1)},
		{"one entry, of a lesser term", of(7, 0, 1)},
		{"terms that stay", of(2, 0, 2, 2, 2)},
		{"terms that rise", of(9, 0, 1, 2, 2, 7, 9)},
		{"an entry of the greatest term", of(api.MaxTerm, -1, 1, api.MaxTerm)},
		{"an empty command", api.State{Term: 3, Vote: -1, Entries: []api.Entry{{Term: 3}}}},
		{"any bytes", api.State{Term: 3, Vote: -1, Entries: []api.Entry{{Term: 1, Data: "\x00\xff\x80\n"}, {Term: 2, Data: "\x01\x00"}}}},
		{"a command of as many bytes as may be", api.State{Term: 3, Vote: 2, Entries: []api.Entry{{Term: 1, Data: "a"}, {Term: 2, Data: longest}, {Term: 2, Data: "b"}}}},
		{"as many entries as may be", api.State{Term: 5, Vote: 6, Entries: many(api.MaxEntries, 4, 3)}},
		{"one entry fewer", api.State{Term: 5, Vote: 6, Entries: many(api.MaxEntries-1, 4, 0)}},
		{"all there may be", api.State{Term: api.MaxTerm, Vote: api.MaxNodes - 1, Entries: many(api.MaxEntries, api.MaxTerm, api.MaxCommand)}},
	}
}

// numberless may not be, for a number that isn't one of a state's: its records aren't of the form.
func numberless() []named {
	tooLong := strings.Repeat("c", api.MaxCommand+1)
	return []named{
		{"a term below 0", of(-1, -1)},
		{"the least number as term", of(math.MinInt, -1)},
		{"a term beyond the greatest", of(api.MaxTerm+1, -1)},
		{"the greatest number as term", of(math.MaxInt, -1, 1)},
		{"a vote below nobody", of(1, -2)},
		{"the least number as vote", of(1, math.MinInt)},
		{"a vote for one too many", of(1, api.MaxNodes)},
		{"the greatest number as vote", of(1, math.MaxInt, 1)},
		{"an entry of the term 0", of(1, 0, 0)},
		{"an entry of the term 0 in the term 0", of(0, 0, 0)},
		{"an entry of the term 0 ahead of another", of(1, 0, 0, 1)},
		{"an entry of a term below 0", of(1, 0, -1)},
		{"an entry of a term beyond the greatest", of(api.MaxTerm, 0, 1, api.MaxTerm+1)},
		{"a command of one byte too many", api.State{Term: 3, Vote: 2, Entries: []api.Entry{{Term: 1, Data: tooLong}}}},
		{"a command of one byte too many, the last one", api.State{Term: 3, Vote: 2, Entries: []api.Entry{{Term: 1}, {Term: 1, Data: tooLong}}}},
	}
}

// together may not be, though each of their numbers may: each of their records is of the form.
func together() []named {
	return []named{
		{"an entry of a term above the state's", of(1, 0, 2)},
		{"an entry in the term 0", of(0, -1, 1)},
		{"the last entry of a term above the state's", of(4, 0, 1, 4, 5)},
		{"an entry beyond the last but one term", of(api.MaxTerm-1, 0, api.MaxTerm)},
		{"terms that fall at first", of(9, 0, 2, 1)},
		{"terms that fall amid", of(9, 0, 1, 3, 2, 4)},
		{"terms that fall at last", of(9, 0, 1, 1, 3, 2)},
		{"terms that fall above the state's", of(2, 0, 3, 1)},
		{"one entry too many", api.State{Term: 5, Vote: 6, Entries: many(api.MaxEntries+1, 4, 0)}},
		{"far too many", api.State{Term: 5, Vote: 6, Entries: many(3*api.MaxEntries, 4, 0)}},
	}
}

// P6.1: the chapter's example, byte by byte.
func TestTheExample(t *testing.T) {
	l := hard.Records(api.Save{Hard: true, Term: 3, Vote: 1})
	if len(l) != 1 || l[0].Kind != 1 || !bytes.Equal(l[0].Data, []byte{0, 0, 0, 0, 0, 0, 0, 3, 0, 0, 0, 0, 0, 0, 0, 1}) {
		t.Error(l)
	}
	l = hard.Records(api.Save{From: 258, Entries: []api.Entry{{Term: 3, Data: "hi"}}})
	if len(l) != 1 || l[0].Kind != 2 || !bytes.Equal(l[0].Data, []byte{0, 0, 0, 0, 0, 0, 1, 2, 0, 0, 0, 0, 0, 0, 0, 3, 0, 2, 'h', 'i'}) {
		t.Error(l)
	}
	d := disk.New()
	mustAnswer(t, "Write", hard.Write(d, api.Save{Hard: true, Term: 3, Vote: 1}), api.OK)
	mustRecover(t, "the example", d, of(3, 1), []wal.Record{hardOf(3, 1)})
}

// P6.1: which states may be.
func TestRight(t *testing.T) {
	for _, c := range rightStates() {
		if !hard.Right(c.s) {
			t.Errorf("%s: %s may not be", c.name, told(c.s))
		}
	}
	for _, c := range append(numberless(), together()...) {
		if hard.Right(c.s) {
			t.Errorf("%s: %s may be", c.name, told(c.s))
		}
	}
	if !hard.Right(api.State{}) || !hard.Right(api.State{Vote: -1, Entries: []api.Entry{}}) {
		t.Error("an empty list of entries may be, and a vote of 0")
	}
}

// P6.1: each state of few small numbers.
func TestRightOfSmallStates(t *testing.T) {
	for term := -1; term <= 4; term++ {
		for vote := -2; vote <= api.MaxNodes; vote++ {
			for first := range 6 {
				for second := range 6 {
					right := term >= 0 && vote >= -1 && vote < api.MaxNodes
					mustBe(t, of(term, vote), right)
					mustBe(t, of(term, vote, first), right && first >= 1 && term >= first)
					mustBe(t, of(term, vote, first, second), right && first >= 1 && second >= first && term >= second)
				}
			}
		}
	}
}

func mustBe(t *testing.T, s api.State, want bool) {
	t.Helper()
	if got := hard.Right(s); got != want {
		t.Errorf("%s: Right answers %v", told(s), got)
	}
}

// P6.1: a save's records: of the term and the vote, if they are told; of each entry, whatever it is.
func TestRecords(t *testing.T) {
	for _, c := range []struct {
		s    api.Save
		want []wal.Record
	}{
		{api.Save{}, nil},
		{api.Save{Term: 5, Vote: 3}, nil},
		{api.Save{Term: 5, Vote: 3, From: 7, Entries: []api.Entry{}}, nil},
		{api.Save{Hard: true}, []wal.Record{hardOf(0, 0)}},
		{api.Save{Hard: true, Vote: -1, From: 4}, []wal.Record{hardOf(0, -1)}},
		{api.Save{Hard: true, Term: api.MaxTerm, Vote: api.MaxNodes - 1}, []wal.Record{hardOf(api.MaxTerm, api.MaxNodes-1)}},
		{api.Save{Hard: true, Term: math.MinInt, Vote: math.MaxInt}, []wal.Record{hardOf(math.MinInt, math.MaxInt)}},
		{api.Save{Term: 9, Vote: 9, From: 1, Entries: of(0, 0, 4).Entries}, []wal.Record{entryOf(1, 4, "own 0 of 4")}},
		{api.Save{From: 1024, Entries: of(0, 0, 4, 4, 5).Entries}, []wal.Record{entryOf(1024, 4, "own 0 of 4"), entryOf(1025, 4, "own 1 of 4"), entryOf(1026, 5, "own 2 of 5")}},
		{api.Save{Hard: true, Term: 6, Vote: 2, From: 2, Entries: of(0, 0, 5, 6).Entries}, []wal.Record{hardOf(6, 2), entryOf(2, 5, "own 0 of 5"), entryOf(3, 6, "own 1 of 6")}},
		{api.Save{From: -1, Entries: []api.Entry{{Term: -5}, {Term: 0, Data: "\x00"}, {Term: -7}}}, []wal.Record{entryOf(-1, -5, ""), entryOf(0, 0, "\x00"), entryOf(1, -7, "")}},
		{api.Save{From: math.MaxInt, Entries: []api.Entry{{Term: math.MaxInt}, {Term: math.MinInt}}}, []wal.Record{entryOf(math.MaxInt, math.MaxInt, ""), entryOf(math.MinInt, math.MinInt, "")}},
		{api.Save{From: 3, Entries: many(2, 1, api.MaxCommand+1)}, []wal.Record{entryOf(3, 1, strings.Repeat("m", api.MaxCommand+1)), entryOf(4, 1, strings.Repeat("m", api.MaxCommand+1))}},
		{api.Save{From: 1, Entries: many(1, 1, 65535)}, []wal.Record{entryOf(1, 1, strings.Repeat("m", 65535))}},
		{api.Save{From: 1, Entries: many(1, 1, 70000)}, []wal.Record{entryOf(1, 1, strings.Repeat("m", 65535))}},
	} {
		if got := hard.Records(c.s); !alikeRecords(got, c.want) {
			t.Errorf("%.100s: %.300s, not %.300s", fmt.Sprint(c.s), fmt.Sprint(got), fmt.Sprint(c.want))
		}
	}
	for _, c := range rightStates() {
		if got := hard.Records(whole(c.s)); !alikeRecords(got, tell(whole(c.s))) {
			t.Errorf("%s: other records: %d of them", c.name, len(got))
		}
	}
}

// saves are some, one behind the other: each record of them leaves a state that may be.
func saves() []api.Save {
	return []api.Save{
		{Hard: true, Term: 1, Vote: 0},
		{From: 1, Entries: []api.Entry{{Term: 1, Data: "one"}, {Term: 1, Data: ""}, {Term: 1, Data: "three"}}},
		{},
		{Hard: true, Term: 3, Vote: -1, From: 4, Entries: []api.Entry{{Term: 2, Data: "four"}}},
		{From: 2, Entries: []api.Entry{{Term: 2, Data: "second\x00"}, {Term: 3, Data: "third"}}},
		{Hard: true, Term: 3, Vote: 6},
		{Hard: true, Term: 7, Vote: 2, From: 1, Entries: []api.Entry{{Term: 1, Data: "first"}}},
		{From: 2, Entries: []api.Entry{{Term: 7, Data: "last"}}},
	}
}

// statesOf is what records leave, one state behind each of them: told in another way than the program's, by all records up to there.
func statesOf(l []wal.Record) []api.State {
	states := []api.State{atFirst()}
	for n := range l {
		s := atFirst()
		at := map[int]api.Entry{}
		for _, r := range l[:n+1] {
			one := int(int64(binary.BigEndian.Uint64(r.Data)))
			two := int(int64(binary.BigEndian.Uint64(r.Data[8:])))
			if r.Kind == 1 {
				s.Term, s.Vote = one, two
				continue
			}
			at[one] = api.Entry{Term: two, Data: string(r.Data[18:])}
			delete(at, one+1)
		}
		for i := 1; ; i++ {
			e, there := at[i]
			if !there {
				break
			}
			s.Entries = append(s.Entries, e)
		}
		states = append(states, s)
	}
	return states
}

// P6.1: what records tell, from the first one on, wherever they end.
func TestPlay(t *testing.T) {
	mustPlay(t, "no records", nil, atFirst())
	mustPlay(t, "no records", []wal.Record{}, atFirst())
	l := tellAll(saves())
	for n, want := range statesOf(l) {
		mustPlay(t, fmt.Sprintf("%d records", n), l[:n], want)
	}
	mustPlay(t, "the last ones", l, api.State{Term: 7, Vote: 2, Entries: []api.Entry{{Term: 1, Data: "first"}, {Term: 7, Data: "last"}}})
	for _, c := range rightStates() {
		mustPlay(t, c.name, tell(whole(c.s)), c.s)
		mustPlay(t, c.name+", twice", append(tell(whole(c.s)), tell(whole(c.s))...), c.s)
	}
}

// P6.1: a term may fall, a vote may change, and entries may be told ahead of the term: the last record of a kind counts.
func TestPlayInAnyOrder(t *testing.T) {
	mustPlay(t, "a term that falls", []wal.Record{hardOf(9, 1), hardOf(2, 3)}, of(2, 3))
	mustPlay(t, "another vote in a term", []wal.Record{hardOf(9, 1), hardOf(9, -1), hardOf(9, 4)}, of(9, 4))
	mustPlay(t, "entries ahead of the term", []wal.Record{entryOf(1, 4, "own 0 of 4"), entryOf(2, 5, "own 1 of 5"), hardOf(5, 0)}, of(5, 0, 4, 5))
	mustPlay(t, "the same record thrice", slices.Concat([]wal.Record{hardOf(4, 0)}, slices.Repeat([]wal.Record{entryOf(1, 4, "own 0 of 4")}, 3)), of(4, 0, 4))
}

// P6.1: an entry takes the place of another one, and all behind go.
func TestPlayTakesThePlace(t *testing.T) {
	five := tell(whole(of(9, 0, 1, 1, 2, 2, 3)))
	for index := 1; index <= 6; index++ {
		term := []int{0, 1, 1, 1, 2, 2, 3}[index]
		want := of(9, 0, []int{1, 1, 2, 2, 3}[:index-1]...)
		want.Entries = append(want.Entries, api.Entry{Term: term, Data: "in its place"})
		mustPlay(t, fmt.Sprintf("at the index %d", index), append(slices.Clone(five), entryOf(index, term, "in its place")), want)
		want.Entries = append(want.Entries, api.Entry{Term: 9, Data: "behind"})
		mustPlay(t, fmt.Sprintf("at the index %d, and one behind", index), append(slices.Clone(five), entryOf(index, term, "in its place"), entryOf(index+1, 9, "behind")), want)
		for gap := index + 2; gap < 9; gap++ { // what went isn't there any more
			mustNotPlay(t, "a gap behind what went", append(slices.Clone(five), entryOf(index, term, "in its place"), entryOf(gap, 9, "behind")))
		}
	}
}

// formless are records of no form; ahead of each stands a state of the term 9 with three entries.
func formless() map[string]wal.Record {
	hardBytes, entryBytes := hardOf(9, 1).Data, entryOf(4, 3, "data").Data
	tooLong := strings.Repeat("c", api.MaxCommand+1)
	l := map[string]wal.Record{
		"no kind":                                {Kind: 0, Data: hardBytes},
		"the kind 3":                             {Kind: 3, Data: hardBytes},
		"the kind 3, an entry's bytes":           {Kind: 3, Data: entryBytes},
		"the kind 255":                           {Kind: 255, Data: entryBytes},
		"the kind 255, no bytes":                 {Kind: 255},
		"a term and a vote as an entry":          {Kind: 2, Data: hardBytes},
		"an entry as a term and a vote":          {Kind: 1, Data: entryBytes},
		"one byte left over":                     {Kind: 1, Data: append(slices.Clone(hardBytes), 0)},
		"eight bytes left over":                  {Kind: 1, Data: append(slices.Clone(hardBytes), numbers(0)...)},
		"one byte left over, of an entry":        {Kind: 2, Data: append(slices.Clone(entryBytes), 0)},
		"two bytes left over, of an entry":       {Kind: 2, Data: append(slices.Clone(entryBytes), 0, 0)},
		"a text of fewer bytes than there are":   {Kind: 2, Data: append(numbers(4, 3), 0, 1, 'a', 'b')},
		"a text of more bytes than there are":    {Kind: 2, Data: append(numbers(4, 3), 0, 3, 'a', 'b')},
		"a term below 0":                         hardOf(-1, 1),
		"the least number as term":               hardOf(math.MinInt, 1),
		"a term beyond the greatest":             hardOf(api.MaxTerm+1, 1),
		"the greatest number as term":            hardOf(math.MaxInt, 1),
		"a vote below nobody":                    hardOf(9, -2),
		"a vote for one too many":                hardOf(9, api.MaxNodes),
		"the greatest number as vote":            hardOf(9, math.MaxInt),
		"the index 0":                            entryOf(0, 3, "data"),
		"an index below 0":                       entryOf(-1, 3, "data"),
		"the least number as index":              entryOf(math.MinInt, 3, "data"),
		"an index that leaves a gap":             entryOf(5, 3, "data"),
		"an index that leaves a greater gap":     entryOf(api.MaxEntries, 3, "data"),
		"the greatest number as index":           entryOf(math.MaxInt, 3, "data"),
		"an entry of the term 0":                 entryOf(4, 0, "data"),
		"an entry of a term below 0":             entryOf(4, -3, "data"),
		"an entry of a term beyond the greatest": entryOf(4, api.MaxTerm+1, "data"),
		"a command of one byte too many":         entryOf(4, 3, tooLong),
		"a command of far too many bytes":        entryOf(4, 3, strings.Repeat("c", 65535)),
	}
	for n := range hardBytes {
		l[fmt.Sprintf("%d bytes of a term and a vote", n)] = wal.Record{Kind: 1, Data: hardBytes[:n:n]}
	}
	for n := range entryBytes {
		l[fmt.Sprintf("%d bytes of an entry", n)] = wal.Record{Kind: 2, Data: entryBytes[:n:n]}
	}
	return l
}

// P6.1: a record of no form is told, wherever it comes, though later ones make up for it.
func TestPlayOfNoForm(t *testing.T) {
	ahead := tell(whole(of(9, 0, 1, 2, 3)))
	mustPlay(t, "what stands ahead", ahead, of(9, 0, 1, 2, 3))
	for name, r := range formless() {
		mustNotPlay(t, name+", alone", []wal.Record{r})
		mustNotPlay(t, name+", ahead of others", append([]wal.Record{r}, ahead...))
		mustNotPlay(t, name+", at last", append(slices.Clone(ahead), r))
		mustNotPlay(t, name+", amid others", slices.Concat(ahead, []wal.Record{r}, ahead))
		mustNotPlay(t, name+", behind the first one", slices.Concat(ahead[:1], []wal.Record{r}, ahead[1:]))
	}
}

// P6.1: a first entry that isn't the first one leaves a gap.
func TestPlayOfAGap(t *testing.T) {
	mustNotPlay(t, "the second one alone", []wal.Record{hardOf(1, 0), entryOf(2, 1, "")})
	mustNotPlay(t, "the second one first", []wal.Record{hardOf(1, 0), entryOf(2, 1, ""), entryOf(1, 1, ""), entryOf(2, 1, "")})
	mustNotPlay(t, "the third one behind the first one", []wal.Record{hardOf(1, 0), entryOf(1, 1, ""), entryOf(3, 1, "")})
}

// P6.1: a state that may not be is told, though each record is of the form; one of whose numbers may not be, too.
func TestPlayOfAStateThatMayNotBe(t *testing.T) {
	for _, c := range append(numberless(), together()...) {
		mustNotPlay(t, c.name, tell(whole(c.s)))
		mustNotPlay(t, c.name+", twice", append(tell(whole(c.s)), tell(whole(c.s))...))
	}
	mustNotPlay(t, "an entry without a term's record", []wal.Record{entryOf(1, 1, "")})
	mustNotPlay(t, "a term that fell below its entries'", append(tell(whole(of(9, 0, 1, 5))), hardOf(4, 0)))
	mustNotPlay(t, "a lesser term at last", append(tell(whole(of(9, 0, 1, 5))), entryOf(3, 4, "")))
	mustNotPlay(t, "a lesser term in the place of one", append(tell(whole(of(9, 0, 2, 5))), entryOf(2, 1, "")))
}

// P6.1: what a later record took back isn't looked at.
func TestPlayOfAStateThatIsRightAgain(t *testing.T) {
	for _, c := range together() {
		l := append(tell(whole(c.s)), entryOf(1, 1, "own 0 of 1"), hardOf(1, 2))
		mustPlay(t, c.name+", taken back", l, of(1, 2, 1))
		mustPlay(t, c.name+", taken back, and on", append(l, tell(whole(of(9, 3, 1, 2, 3)))...), of(9, 3, 1, 2, 3))
	}
	mustPlay(t, "a term that fell, and rose", append(tell(whole(of(9, 0, 1, 5))), hardOf(4, 0), hardOf(5, 0)), of(5, 0, 1, 5))
	mustPlay(t, "entries above the term, that rose", []wal.Record{hardOf(1, 0), entryOf(1, 6, "own 0 of 6"), hardOf(6, -1)}, of(6, -1, 6))
	mustPlay(t, "a term that fell amid entries", append(tell(whole(of(9, 0, 1, 5, 4))), entryOf(3, 5, "own 2 of 5")), of(9, 0, 1, 5, 5))

	full := whole(api.State{Term: 3, Vote: 0, Entries: many(api.MaxEntries, 2, 1)})
	tooMany := append(tell(full), entryOf(api.MaxEntries+1, 2, ""))
	mustNotPlay(t, "one entry too many", tooMany)
	mustNotPlay(t, "one entry too many, and its place taken", append(tooMany, entryOf(api.MaxEntries+1, 3, "")))
	want := api.State{Term: 3, Vote: 0, Entries: many(api.MaxEntries, 2, 1)}
	mustPlay(t, "one entry too many, taken back", append(tooMany, entryOf(api.MaxEntries, 2, "m")), want)
}

// P6.1: what is written comes behind all that the disk has, as tail.
func TestWrite(t *testing.T) {
	d := with(t, []byte("synced"), []byte("tail"))
	want := []byte("syncedtail")
	for _, s := range saves() {
		mustAnswer(t, "Write", hard.Write(d, s), api.OK)
		want = append(want, framesOf(tell(s))...)
		if !bytes.Equal(d.Bytes(), want) || d.Synced() != len("synced") {
			t.Fatalf("%v: %d bytes, %d synced, not %d, or other ones", s, d.Len(), d.Synced(), len(want))
		}
	}
	for _, c := range rightStates() {
		d := disk.New()
		mustAnswer(t, c.name, hard.Write(d, whole(c.s)), api.OK)
		if !bytes.Equal(d.Bytes(), framesOf(tell(whole(c.s)))) || d.Synced() != 0 {
			t.Errorf("%s: %d bytes, %d synced, or other ones", c.name, d.Len(), d.Synced())
		}
		mustRecover(t, c.name, d, c.s, tell(whole(c.s)))
	}
}

// P6.1: no disk takes no record, whatever it is.
func TestNoDisk(t *testing.T) {
	for _, s := range []api.Save{
		{Hard: true}, {Hard: true, Term: 3, Vote: 1}, {Hard: true, Term: -1, Vote: -9},
		{From: 1, Entries: many(1, 1, 3)}, {From: -1, Entries: many(2, 0, 0)}, {From: 1, Entries: many(1, 1, api.MaxPayload)}, whole(of(3, 1, 1, 2, 3)),
	} {
		mustAnswer(t, fmt.Sprintf("Write of %.60s", fmt.Sprint(s)), hard.Write(nil, s), api.ErrArg)
	}
	mustNotRecover(t, "no disk", nil, api.ErrArg)
}

// P6.1: the first record that can't be appended tells why: it is too long, or there is no room.
func TestWriteWhatCannotBe(t *testing.T) {
	longest := many(1, 1, api.MaxPayload-1-8-8-2) // all that a frame takes
	tooLong := many(1, 1, api.MaxPayload-8-8-2)
	fine := many(1, 1, 3)
	d := with(t, []byte("synced"), []byte("tail"))
	for _, s := range []api.Save{
		{From: 1, Entries: tooLong}, {From: 1, Entries: many(3, 1, 65535)}, {From: 1, Entries: many(1, 1, 65536)}, {From: 1, Entries: slices.Concat(tooLong, fine)},
	} {
		mustAnswer(t, "a command that is too long, first", hard.Write(d, s), api.ErrLong)
		if string(d.Bytes()) != "syncedtail" || d.Synced() != 6 {
			t.Errorf("the disk has %d bytes, %d synced", d.Len(), d.Synced())
		}
	}
	mustAnswer(t, "a command as long as a record may be", hard.Write(d, api.Save{From: 1, Entries: longest}), api.OK)
	mustAnswer(t, "a command that is too long, behind others", hard.Write(d, api.Save{Hard: true, From: 1, Entries: slices.Concat(fine, tooLong, fine)}), api.ErrLong)

	full := with(t, nil, make([]byte, api.MaxDisk))
	mustAnswer(t, "a term, to a full disk", hard.Write(full, api.Save{Hard: true}), api.ErrFull)
	mustAnswer(t, "entries, to a full disk", hard.Write(full, api.Save{From: 1, Entries: slices.Concat(fine, tooLong)}), api.ErrFull)
	mustAnswer(t, "what is too long, to a full disk", hard.Write(full, api.Save{From: 1, Entries: slices.Concat(tooLong, fine)}), api.ErrLong)
	mustAnswer(t, "nothing, to a full disk", hard.Write(full, api.Save{Term: 5, Vote: 2, From: 1}), api.OK)
	if !bytes.Equal(full.Bytes(), make([]byte, api.MaxDisk)) || full.Synced() != 0 {
		t.Error("a full disk was changed")
	}
}

// P6.1: a disk that has room for some of a save's bytes alone: what was there stays as it was, and what came behind is some of its first records.
func TestWriteToADiskWithoutRoom(t *testing.T) {
	s := whole(of(3, 1, 1, 2, 3))
	frames := framesOf(tell(s))
	for room := range len(frames) + 1 {
		rest := make([]byte, api.MaxDisk-room-3)
		d := with(t, []byte("syn"), rest)
		fault := api.ErrFull
		if room == len(frames) {
			fault = api.OK
		}
		mustAnswer(t, fmt.Sprintf("a room of %d of %d bytes", room, len(frames)), hard.Write(d, s), fault)
		b := d.Bytes()
		if d.Synced() != 3 || !bytes.Equal(b[:3], []byte("syn")) || !bytes.Equal(b[3:len(rest)+3], rest) {
			t.Fatalf("a room of %d bytes: what was there was changed", room)
		}
		if behind := b[len(rest)+3:]; !slices.ContainsFunc(ends(tell(s)), func(n int) bool { return bytes.Equal(behind, frames[:n]) }) {
			t.Fatalf("a room of %d bytes: %d came behind that aren't some of the first records", room, len(behind))
		}
	}
}

// ends are where a row of records may end: 0, and behind each of them.
func ends(l []wal.Record) []int {
	at := []int{0}
	for n := range l {
		at = append(at, len(framesOf(l[:n+1])))
	}
	return at
}

// P6.1: a disk tells what its records tell; a fault of what is synced comes first.
func TestRecover(t *testing.T) {
	mustRecover(t, "a new disk", disk.New(), atFirst(), nil)
	for n := range saves() {
		l := tellAll(saves()[:n+1])
		states := statesOf(l)
		mustRecover(t, fmt.Sprintf("%d saves", n+1), with(t, framesOf(l), nil), states[len(l)], l)
		mustRecover(t, fmt.Sprintf("%d saves, not synced", n+1), with(t, nil, framesOf(l)), states[len(l)], l)
		mustRecover(t, fmt.Sprintf("%d saves, and a torn end", n+1), with(t, framesOf(l), []byte("torn")), states[len(l)], l)
		d := with(t, framesOf(l), nil)
		mustAnswer(t, "Spoil", d.Spoil(n, 1), api.OK)
		mustNotRecover(t, "a disk that is spoilt", d, api.ErrCheck)
	}
	for _, c := range append(numberless(), together()...) {
		if len(c.s.Entries) > 2*api.MaxEntries {
			continue
		}
		mustNotRecover(t, c.name, with(t, framesOf(tell(whole(c.s))), nil), api.ErrForm)
		mustNotRecover(t, c.name+", not synced", with(t, nil, framesOf(tell(whole(c.s)))), api.ErrForm)
	}
}

// P6.1: records of no form that are whole are told by Recover, synced or not, and behind others.
func TestRecoverOfNoForm(t *testing.T) {
	ahead := tell(whole(of(9, 0, 1, 2, 3)))
	for name, r := range formless() {
		if r.Kind == 0 || len(r.Data) >= api.MaxPayload {
			continue // layer 5 has no such record
		}
		frame := framesOf([]wal.Record{r})
		mustNotRecover(t, name+", alone", with(t, frame, nil), api.ErrForm)
		mustNotRecover(t, name+", behind others", with(t, append(framesOf(ahead), frame...), nil), api.ErrForm)
		mustNotRecover(t, name+", not synced", with(t, framesOf(ahead), frame), api.ErrForm)
		d := with(t, append(frame, framesOf(ahead)...), nil)
		mustAnswer(t, "Spoil", d.Spoil(len(frame)+5, 1), api.OK)
		mustNotRecover(t, name+", and one that is spoilt", d, api.ErrCheck)
	}
	mustNotRecover(t, "a record of no kind, synced", with(t, append(framesOf(ahead), framesOf([]wal.Record{{Kind: 0, Data: numbers(1, 1)}})...), nil), api.ErrCheck)
	mustRecover(t, "a record of no kind, not synced", with(t, framesOf(ahead), framesOf([]wal.Record{{Kind: 0, Data: numbers(1, 1)}})), of(9, 0, 1, 2, 3), ahead)
}

// P6.1: a write that the disk has no room for, or that is too long, leaves what was written ahead to be recovered.
func TestRecoverBehindAWriteThatFailed(t *testing.T) {
	d := disk.New()
	s := api.State{Term: 3, Vote: 0, Entries: many(api.MaxEntries, 2, api.MaxCommand)}
	mustAnswer(t, "Write", hard.Write(d, whole(s)), api.OK)
	mustAnswer(t, "Sync", d.Sync(), api.OK)
	mustAnswer(t, "Write of all again", hard.Write(d, api.Save{From: 1, Entries: s.Entries}), api.ErrFull)
	mustAnswer(t, "Crash", d.Crash(0, 0, 0), api.OK)
	mustRecover(t, "a full disk", d, s, tell(whole(s)))

	d = disk.New()
	mustAnswer(t, "Write", hard.Write(d, api.Save{Hard: true, Term: 4, Vote: -1}), api.OK)
	mustAnswer(t, "Write of what is too long", hard.Write(d, api.Save{From: 1, Entries: many(1, 1, api.MaxPayload)}), api.ErrLong)
	mustRecover(t, "a command that is too long", d, of(4, -1), []wal.Record{hardOf(4, -1)})
	mustAnswer(t, "Write of a command that an entry may not have", hard.Write(d, api.Save{From: 1, Entries: many(1, 1, api.MaxCommand+1)}), api.OK)
	mustNotRecover(t, "a command that an entry may not have", d, api.ErrForm)
}

// P6.2: each number of saves synced, and a crash at each place of the others, with none of the bytes that stay turned, and with one: each of all that may stay, and of fewer some.
func TestEveryCrash(t *testing.T) {
	all := saves()
	for synced := range len(all) + 1 {
		tail := len(framesOf(tellAll(all[synced:])))
		for keep := -1; keep <= tail+1; keep++ {
			crashed(t, all, synced, keep, -1, 0)
			crashed(t, all, synced, keep, 0, 0)
			for _, at := range []int{0, keep / 3, keep / 2, keep - 9, keep - 1, keep} {
				crashed(t, all, synced, keep, at, 1)
			}
		}
		for at := range tail {
			crashed(t, all, synced, tail, at, 128)
		}
		crashed(t, all, synced, math.MinInt, 0, 1)
		crashed(t, all, synced, math.MaxInt, -1, 1)
		crashed(t, all, synced, math.MaxInt, tail/2, 255)
	}
}

// crashed: saves, the first of them synced, behind that crash: all that were synced are recovered, and of the others the records that end ahead of what was lost or turned; and one that is written then comes behind them.
func crashed(t *testing.T, all []api.Save, synced, keep, at int, by byte) {
	t.Helper()
	d := disk.New()
	for i, s := range all {
		mustAnswer(t, "Write", hard.Write(d, s), api.OK)
		if i < synced {
			mustAnswer(t, "Sync", d.Sync(), api.OK)
		}
	}
	l := tellAll(all)
	right := max(0, min(keep, d.Len()-d.Synced()))
	if at >= 0 && at < right && by != 0 {
		right = at
	}
	n := 0
	for _, end := range ends(l)[1:] {
		if end <= d.Synced()+right {
			n++
		}
	}
	if n < len(tellAll(all[:synced])) {
		t.Fatal("the test asks for less than was synced")
	}
	where := fmt.Sprintf("%d of %d saves synced, Crash(%d, %d, %d)", synced, len(all), keep, at, by)
	mustAnswer(t, where, d.Crash(keep, at, by), api.OK)
	want := statesOf(l[:n])[n]
	mustRecover(t, where, d, want, l[:n])

	more := api.Save{Hard: true, Term: 9, Vote: 5, From: len(want.Entries) + 1, Entries: []api.Entry{{Term: 8, Data: "more"}}}
	mustAnswer(t, where+": Write", hard.Write(d, more), api.OK)
	mustAnswer(t, where+": Sync", d.Sync(), api.OK)
	mustAnswer(t, where+": Crash", d.Crash(0, 0, 0), api.OK)
	want = api.State{Term: 9, Vote: 5, Entries: append(want.Entries, more.Entries...)}
	mustRecover(t, where+", and one more", d, want, append(slices.Clone(l[:n]), tell(more)...))
}

// P6.2: the greatest state, and a crash amid what comes behind it.
func TestACrashBehindTheGreatestState(t *testing.T) {
	s := api.State{Term: api.MaxTerm, Vote: api.MaxNodes - 1, Entries: many(api.MaxEntries, api.MaxTerm, api.MaxCommand)}
	behind := api.Save{From: api.MaxEntries, Entries: []api.Entry{{Term: api.MaxTerm, Data: "otherwise"}}}
	frame := framesOf(tell(behind))
	for _, keep := range []int{0, 1, 5, len(frame) - 1, len(frame)} {
		d := disk.New()
		mustAnswer(t, "Write", hard.Write(d, whole(s)), api.OK)
		mustAnswer(t, "Sync", d.Sync(), api.OK)
		mustAnswer(t, "Write", hard.Write(d, behind), api.OK)
		mustAnswer(t, "Crash", d.Crash(keep, -1, 0), api.OK)
		want, l := s, tell(whole(s))
		if keep == len(frame) {
			want.Entries = append(slices.Clone(s.Entries[:api.MaxEntries-1]), behind.Entries...)
			l = append(l, tell(behind)...)
		}
		mustRecover(t, fmt.Sprintf("%d bytes kept", keep), d, want, l)
	}
}

// P6.2: each synced byte that is spoilt is told; turned back, all is there again.
func TestASpoiltByte(t *testing.T) {
	l := tellAll(saves())
	d := with(t, framesOf(l), nil)
	for at := range d.Len() {
		for _, by := range []byte{1, 64, 255} {
			mustAnswer(t, "Spoil", d.Spoil(at, by), api.OK)
			mustNotRecover(t, fmt.Sprintf("the byte at %d turned by %d", at, by), d, api.ErrCheck)
			mustAnswer(t, "Spoil", d.Spoil(at, by), api.OK)
		}
	}
	mustRecover(t, "all turned back", d, statesOf(l)[len(l)], l)
}

// spoil writes over entries, and over the room behind them.
func spoil(l []api.Entry) {
	l = l[:cap(l)]
	for i := range l {
		l[i] = api.Entry{Term: -77, Data: "spoilt"}
	}
}

// spoilBytes writes over records' bytes, and over the room behind them.
func spoilBytes(l []wal.Record) {
	for i := range l {
		b := l[i].Data[:cap(l[i].Data)]
		for j := range b {
			b[j] = '#'
		}
		l[i].Kind = 77
	}
}

// P6.1: a save that is handed in isn't changed, and isn't kept.
func TestASaveIsNotShared(t *testing.T) {
	room := many(20, 1, 5)
	s := api.Save{Hard: true, Term: 2, Vote: 1, From: 1, Entries: room[:3]}
	d := disk.New()
	l, want := hard.Records(s), tell(s)
	mustAnswer(t, "Write", hard.Write(d, s), api.OK)
	if !hard.Right(api.State{Term: 2, Entries: room[:3]}) || !slices.Equal(room, many(20, 1, 5)) {
		t.Error("what was handed in was changed")
	}
	spoil(room)
	if !alikeRecords(l, want) {
		t.Error("records change with the save's entries")
	}
	mustRecover(t, "a save that was changed behind Write", d, api.State{Term: 2, Vote: 1, Entries: many(3, 1, 5)}, want)
}

// P6.1: the records that are handed out are new memory, each of them.
func TestRecordsAreNotShared(t *testing.T) {
	s := whole(of(2, 1, 1, 2, 2))
	one, other := hard.Records(s), hard.Records(s)
	_ = append(one[0].Data, bytes.Repeat([]byte{255}, 99)...)
	spoilBytes(one[1:2])
	if !alikeRecords([]wal.Record{one[0], one[2], one[3]}, []wal.Record{tell(s)[0], tell(s)[2], tell(s)[3]}) {
		t.Error("records of one answer share memory")
	}
	spoilBytes(one)
	if !alikeRecords(other, tell(s)) || !alikeRecords(hard.Records(s), tell(s)) {
		t.Error("two answers share memory")
	}
}

// P6.1: the state that is handed out is new memory, and records that are handed in aren't changed, nor kept.
func TestAStateIsNotShared(t *testing.T) {
	l := tellAll(saves())
	want := statesOf(l)[len(l)]
	d := with(t, framesOf(l), nil)
	for name, ask := range map[string]func() (api.State, api.Errno){
		"Play":    func() (api.State, api.Errno) { return hard.Play(l) },
		"Recover": func() (api.State, api.Errno) { return hard.Recover(d) },
	} {
		one, _ := ask()
		other, _ := ask()
		spoil(one.Entries)
		third, fault := ask()
		if fault != api.OK || !alike(other, want) || !alike(third, want) {
			t.Errorf("%s: two answers share memory", name)
		}
	}
	if !alikeRecords(l, tellAll(saves())) {
		t.Error("Play changed what was handed in")
	}
	s, _ := hard.Play(l)
	spoilBytes(l)
	if !alike(s, want) {
		t.Error("a state changes with the records")
	}
	mustRecover(t, "a disk whose state was changed", d, want, tellAll(saves()))
}
