package log_test

import (
	"fmt"
	"math"
	"slices"
	"testing"

	"kissinggate/api"
	"kissinggate/log"
)

// of are entries of these terms, each with data of its own.
func of(terms ...int) []api.Entry {
	var l []api.Entry
	for i, term := range terms {
		l = append(l, api.Entry{Term: term, Data: fmt.Sprint("own ", i, " of ", term)})
	}
	return l
}

// many are n entries of a term.
func many(n, term int) []api.Entry {
	return slices.Repeat([]api.Entry{{Term: term, Data: "many"}}, n)
}

// named are entries of these terms whose data tells who put them.
func named(name string, terms ...int) []api.Entry {
	l := of(terms...)
	for i := range l {
		l[i].Data = fmt.Sprint(name, i)
	}
	return l
}

// mustHave: the log has these entries, and no others, whichever call is asked.
func mustHave(t *testing.T, where string, l *log.Log, want []api.Entry) {
	t.Helper()
	if got := l.All(); !slices.Equal(got, want) {
		t.Errorf("%s: All answers %s, not %s", where, told(got), told(want))
	}
	if got := l.From(1, math.MaxInt); !slices.Equal(got, want) {
		t.Errorf("%s: From the first one on: %s, not %s", where, told(got), told(want))
	}
	lastTerm := 0
	if len(want) > 0 {
		lastTerm = want[len(want)-1].Term
	}
	if index, term := l.Last(); index != len(want) || term != lastTerm {
		t.Errorf("%s: Last answers %d, %d, not %d, %d", where, index, term, len(want), lastTerm)
	}
	for i, e := range want {
		if !mustBeOfTerm(t, where, l, i+1, e.Term, true) {
			return // a log of many entries would tell as many faults
		}
	}
	mustBeOfTerm(t, where, l, 0, 0, true)
	for _, index := range []int{math.MinInt, -2, -1, len(want) + 1, len(want) + 2, math.MaxInt} {
		mustBeOfTerm(t, where, l, index, 0, false)
	}
}

// mustBeOfTerm: Term answers so.
func mustBeOfTerm(t *testing.T, where string, l *log.Log, index, want int, found bool) bool {
	t.Helper()
	term, ok := l.Term(index)
	if term != want || ok != found {
		t.Errorf("%s: Term(%d) answers %d, %v, not %d, %v", where, index, term, ok, want, found)
	}
	return term == want && ok == found
}

// mustPut: Put answers so, and the log has these then.
func mustPut(t *testing.T, where string, l *log.Log, index, term int, entries []api.Entry, want int, fault api.Errno, has []api.Entry) {
	t.Helper()
	where = fmt.Sprintf("%s: Put(%d, %d, %s)", where, index, term, told(entries))
	if at, why := l.Put(index, term, entries); at != want || why != fault {
		t.Errorf("%s answers %d, %d, not %d, %d", where, at, why, want, fault)
	}
	mustHave(t, where, l, has)
}

// mustAdd: Add answers so, and the log has these then.
func mustAdd(t *testing.T, where string, l *log.Log, e api.Entry, fault api.Errno, has []api.Entry) {
	t.Helper()
	if why := l.Add(e); why != fault {
		t.Errorf("%s: Add of the term %d answers %d, not %d", where, e.Term, why, fault)
	}
	mustHave(t, where, l, has)
}

// told is entries in few words.
func told(l []api.Entry) string {
	if len(l) > 9 {
		return fmt.Sprintf("%d entries, from %v to %v", len(l), l[0], l[len(l)-1])
	}
	return fmt.Sprint(l)
}

// P7.1: the chapter's example.
func TestTheExample(t *testing.T) {
	l := log.New(of(1, 1))
	behind := named("behind", 2)
	mustPut(t, "the example", l, 1, 1, behind, 2, api.OK, append(of(1), behind...))
}

// P7.1: a nil log has nothing, not even the index 0, and takes nothing.
func TestNilLog(t *testing.T) {
	var none *log.Log
	for _, n := range []int{math.MinInt, -1, 0, 1, 2, math.MaxInt} {
		if term, found := none.Term(n); term != 0 || found {
			t.Errorf("Term(%d): %d, %v", n, term, found)
		}
		for _, k := range []int{math.MinInt, -1, 0, 1, 2, math.MaxInt} {
			if l := none.From(n, k); len(l) != 0 {
				t.Errorf("From(%d, %d): %v", n, k, l)
			}
			if none.Younger(n, k) {
				t.Errorf("Younger(%d, %d)", n, k)
			}
			for _, entries := range [][]api.Entry{nil, of(1), of(2, 1), many(api.MaxEntries+1, 1)} {
				if at, fault := none.Put(n, k, entries); at != 0 || fault != api.ErrArg {
					t.Errorf("Put(%d, %d, %s): %d, %d", n, k, told(entries), at, fault)
				}
			}
		}
		if fault := none.Add(api.Entry{Term: n}); fault != api.ErrArg {
			t.Errorf("Add of the term %d: %d", n, fault)
		}
	}
	if index, term := none.Last(); index != 0 || term != 0 || len(none.All()) != 0 {
		t.Error("Last, All:", index, term, none.All())
	}
}

// P7.1: a log without entries is there: it has the index 0, and takes entries.
func TestALogWithoutEntries(t *testing.T) {
	for _, nothing := range [][]api.Entry{nil, {}} {
		l := log.New(nothing)
		mustHave(t, "without entries", l, nil)
		if !l.Younger(0, 0) || !l.Younger(1, 0) || !l.Younger(0, 1) || l.Younger(-1, 0) || l.Younger(9, -1) {
			t.Error("Younger: a log that has nothing, either, isn't elder")
		}
		for _, most := range []int{-1, 0, 1, math.MaxInt} {
			if got := l.From(0, most); len(got) != 0 {
				t.Errorf("From(0, %d): %v", most, got)
			}
		}
		mustPut(t, "without entries", l, 0, 0, nil, 0, api.OK, nil)
		mustPut(t, "without entries", l, 1, 0, nil, 0, api.ErrNone, nil)
		mustPut(t, "without entries", l, 0, 1, nil, 0, api.ErrState, nil)
		mustPut(t, "without entries", l, 0, 0, of(-1), 0, api.ErrRange, nil)
		mustAdd(t, "without entries", l, api.Entry{Term: -1}, api.ErrRange, nil)
		mustAdd(t, "the first one", l, of(0)[0], api.OK, of(0))

		l = log.New(nothing)
		mustPut(t, "without entries", l, 0, 0, of(3, 3, 5), 1, api.OK, of(3, 3, 5))
	}
}

func TestNew(t *testing.T) {
	for _, terms := range [][]int{{1}, {7}, {1, 1}, {1, 2, 2, 9}, {3, api.MaxTerm, api.MaxTerm}} {
		mustHave(t, fmt.Sprint(terms), log.New(of(terms...)), of(terms...))
	}
	mustHave(t, "as many as may be", log.New(many(api.MaxEntries, 4)), many(api.MaxEntries, 4))
	one, other := log.New(of(1, 2)), log.New(of(1, 2))
	one.Add(api.Entry{Term: 3})
	mustHave(t, "another one's", other, of(1, 2))
}

// P7.1: From, from each index on, and of each number at most.
func TestFrom(t *testing.T) {
	numbers := []int{math.MinInt, math.MinInt + 1, -7, -1, 0, 1, 2, 3, 4, 5, 6, 7, 9, math.MaxInt - 1, math.MaxInt}
	for n := range 6 {
		all := of(1, 1, 2, 5, 5, 9)[:n]
		l := log.New(all)
		for _, index := range numbers {
			for _, most := range numbers {
				var want []api.Entry
				for i, e := range all {
					if i+1 >= index && len(want) < most {
						want = append(want, e)
					}
				}
				if got := l.From(index, most); !slices.Equal(got, want) {
					t.Errorf("of %d entries, From(%d, %d): %s, not %s", n, index, most, told(got), told(want))
				}
			}
		}
		mustHave(t, "asked, not changed", l, all)
	}
}

// P7.1: what is added comes behind all; its term isn't below the last one's.
func TestAdd(t *testing.T) {
	l := log.New(nil)
	var has []api.Entry
	for i, term := range []int{0, 1, 1, 2, 7, 7, 7, api.MaxTerm, api.MaxTerm} {
		e := api.Entry{Term: term, Data: fmt.Sprint("the ", i)}
		has = append(has, e)
		mustAdd(t, "one behind the other", l, e, api.OK, has)
		for _, below := range []int{term - 1, -1, math.MinInt} {
			mustAdd(t, "a term that falls", l, api.Entry{Term: below, Data: "below"}, api.ErrRange, has)
		}
	}
	mustAdd(t, "behind those of New", log.New(of(1, 3)), of(0, 0, 3)[2], api.OK, of(1, 3, 3))
	mustAdd(t, "behind those of New", log.New(of(1, 3)), of(0, 0, 4)[2], api.OK, of(1, 3, 4))
	mustAdd(t, "below one of New", log.New(of(1, 3)), api.Entry{Term: 2}, api.ErrRange, of(1, 3))
}

// P7.1: MaxEntries entries are as many as Add takes; a term that falls is told ahead of that.
func TestAddToAFullLog(t *testing.T) {
	full := many(api.MaxEntries, 2)
	l := log.New(full[:api.MaxEntries-2])
	mustAdd(t, "the last but one", l, full[0], api.OK, full[:api.MaxEntries-1])
	mustAdd(t, "the last one", l, full[0], api.OK, full)
	for range 2 {
		mustAdd(t, "one more", l, full[0], api.ErrFull, full)
		mustAdd(t, "one more, of a greater term", l, api.Entry{Term: 3}, api.ErrFull, full)
		mustAdd(t, "one more, of a lesser term", l, api.Entry{Term: 1}, api.ErrRange, full)
	}
	mustPut(t, "a log that was full", l, 5, 2, of(3), 6, api.OK, append(slices.Clone(full[:5]), of(3)...))
	if fault := l.Add(api.Entry{Term: 3}); fault != api.OK {
		t.Error("a log that has room again:", fault)
	}

	l = log.New(nil)
	for i := range api.MaxEntries {
		if fault := l.Add(full[i]); fault != api.OK {
			t.Fatalf("the %d-th: %d", i, fault)
		}
	}
	mustAdd(t, "all by Add, and one more", l, full[0], api.ErrFull, full)
}

// P7.1: entries that follow, that stand there already, of which some do, of which one has another term.
func TestPut(t *testing.T) {
	for _, c := range []struct {
		where       string
		has         []api.Entry
		index, term int
		put         []api.Entry
		at          int
		then        []api.Entry
	}{
		{"behind all", of(1, 1), 2, 1, named("new", 1, 3), 3, append(of(1, 1), named("new", 1, 3)...)},
		{"behind all, one", of(1, 4), 2, 4, named("new", 4), 3, append(of(1, 4), named("new", 4)...)},
		{"behind nothing", nil, 0, 0, named("new", 1, 2), 1, named("new", 1, 2)},
		{"none, behind all", of(1, 1), 2, 1, nil, 0, of(1, 1)},
		{"none, amid", of(1, 1, 2), 1, 1, nil, 0, of(1, 1, 2)},
		{"none, behind the index 0", of(1, 1, 2), 0, 0, []api.Entry{}, 0, of(1, 1, 2)},
		{"all stand there", of(1, 1, 2), 0, 0, named("new", 1, 1, 2), 0, of(1, 1, 2)},
		{"all stand there, and more behind", of(1, 1, 2, 2, 3), 1, 1, named("new", 1, 2), 0, of(1, 1, 2, 2, 3)},
		{"the last one stands there", of(1, 1, 2), 2, 1, named("new", 2), 0, of(1, 1, 2)},
		{"some stand there", of(1, 1, 2), 1, 1, named("new", 1, 2, 2, 3), 4, append(of(1, 1, 2), named("new", 1, 2, 2, 3)[2:]...)},
		{"the first one has another term", of(1, 1, 2), 0, 0, named("new", 2), 1, named("new", 2)},
		{"the first one has another term, more behind", of(1, 1, 1, 1), 1, 1, named("new", 2, 2), 2, append(of(1), named("new", 2, 2)...)},
		{"the second one has another term, more behind", of(1, 1, 1, 1, 1), 1, 1, named("new", 1, 2), 3, append(of(1, 1), named("new", 1, 2)[1:]...)},
		{"a lesser term in the place of a greater one", of(1, 3, 4, 4), 1, 1, named("new", 2), 2, append(of(1), named("new", 2)...)},
		{"the last one has another term", of(1, 1, 2), 0, 0, named("new", 1, 1, 3), 3, append(of(1, 1), named("new", 1, 1, 3)[2:]...)},
		{"of which one has another term, that behind it stands there", of(1, 2, 3), 0, 0, named("new", 1, 3, 3), 2, append(of(1), named("new", 1, 3, 3)[1:]...)},
	} {
		l := log.New(c.has)
		mustPut(t, c.where, l, c.index, c.term, c.put, c.at, api.OK, c.then)
		mustPut(t, c.where+", again", l, c.index, c.term, c.put, 0, api.OK, c.then)
		for n := range c.put {
			mustPut(t, c.where+", a part again", l, c.index, c.term, c.put[:n], 0, api.OK, c.then)
		}
		for n := range c.put {
			mustPut(t, c.where+", the rest again", l, c.index+n+1, c.put[n].Term, c.put[n+1:], 0, api.OK, c.then)
		}
	}
}

// P7.1: why entries aren't put: no such index ahead of another term, that ahead of terms that fall, that ahead of no room.
func TestPutWhatMayNotBe(t *testing.T) {
	has := of(1, 1, 3)
	falling, tooMany := of(4, 3), many(api.MaxEntries+1, 4)
	for _, index := range []int{math.MinInt, -2, -1, 4, 5, api.MaxEntries, math.MaxInt} {
		for _, term := range []int{-1, 0, 1, 3, 9} {
			for _, entries := range [][]api.Entry{nil, of(9), falling, tooMany} {
				mustPut(t, "no such index", log.New(has), index, term, entries, 0, api.ErrNone, has)
			}
		}
	}
	for index, right := range []int{0, 1, 1, 3} {
		for _, term := range []int{math.MinInt, -1, 0, 1, 2, 3, 4, math.MaxInt} {
			for _, entries := range [][]api.Entry{nil, of(9), falling, tooMany, many(2, math.MaxInt)} {
				if term != right {
					mustPut(t, "another term", log.New(has), index, term, entries, 0, api.ErrState, has)
				}
			}
		}
	}
	for _, c := range []struct {
		index, term int
		entries     []api.Entry
	}{
		{0, 0, of(-1)}, {0, 0, of(math.MinInt)}, {0, 0, of(1, 1, 0)}, {0, 0, of(1, 1, 3, 2)}, {0, 0, of(1, 1, 3, 3, 4, 3)},
		{1, 1, of(0)}, {1, 1, of(1, 0)}, {1, 1, of(2, 1)}, {1, 1, of(1, 3, -1)}, {2, 1, of(0, 1, 2)}, {2, 1, of(5, 4, 5)},
		{3, 3, of(2)}, {3, 3, of(3, 2)}, {3, 3, of(3, 4, 3)}, {3, 3, of(3, 4, 5, 6, 5, 7)}, {3, 3, append(many(api.MaxEntries, 4), of(3)...)},
	} {
		mustPut(t, "terms that fall", log.New(has), c.index, c.term, c.entries, 0, api.ErrRange, has)
	}
}

// P7.1: MaxEntries entries are as many as Put leaves there; what stands there already needs no room.
func TestPutIntoAFullLog(t *testing.T) {
	full := many(api.MaxEntries, 2)
	mustPut(t, "all at once", log.New(nil), 0, 0, full, 1, api.OK, full)
	mustPut(t, "one more, at once", log.New(nil), 0, 0, many(api.MaxEntries+1, 2), 0, api.ErrFull, nil)
	mustPut(t, "far too many", log.New(of(1)), 1, 1, many(3*api.MaxEntries, 2), 0, api.ErrFull, of(1))

	l := log.New(full[:api.MaxEntries-3])
	mustPut(t, "one more than there is room", l, api.MaxEntries-3, 2, many(4, 2), 0, api.ErrFull, full[:api.MaxEntries-3])
	mustPut(t, "the room that is left", l, api.MaxEntries-3, 2, many(3, 2), api.MaxEntries-2, api.OK, full)
	mustPut(t, "one behind a full log", l, api.MaxEntries, 2, many(1, 2), 0, api.ErrFull, full)
	mustPut(t, "none behind a full log", l, api.MaxEntries, 2, nil, 0, api.OK, full)
	mustPut(t, "all of a full log again", l, 0, 0, full, 0, api.OK, full)
	mustPut(t, "all of a full log, and one more", l, 0, 0, many(api.MaxEntries+1, 2), 0, api.ErrFull, full)
	mustPut(t, "its last two, and one more", l, api.MaxEntries-2, 2, many(3, 2), 0, api.ErrFull, full)
	mustPut(t, "its last two otherwise, and one more", l, api.MaxEntries-2, 2, many(3, 3), 0, api.ErrFull, full)
	mustPut(t, "its last one again", l, api.MaxEntries-1, 2, many(1, 2), 0, api.OK, full)
	otherwise := slices.Concat(full[:api.MaxEntries-2], many(2, 3))
	mustPut(t, "its last two otherwise", l, api.MaxEntries-2, 2, many(2, 3), api.MaxEntries-1, api.OK, otherwise)
	mustPut(t, "all otherwise, and one more", l, 0, 0, many(api.MaxEntries+1, 4), 0, api.ErrFull, otherwise)
	mustPut(t, "all otherwise", l, 0, 0, many(api.MaxEntries, 4), 1, api.OK, many(api.MaxEntries, 4))
}

// P7.1: a greater term, or the same one and an index that isn't less.
func TestYounger(t *testing.T) {
	for _, has := range [][]api.Entry{nil, of(1), of(1, 1), of(1, 2), of(2, 2, 2), of(1, 1, 4)} {
		l := log.New(has)
		lastIndex, lastTerm := l.Last()
		for _, index := range []int{math.MinInt, -1, 0, 1, 2, 3, 4, math.MaxInt} {
			for _, term := range []int{math.MinInt, -1, 0, 1, 2, 3, 4, 5, math.MaxInt} {
				want := term == lastTerm && index >= lastIndex
				if term > lastTerm {
					want = true
				}
				if got := l.Younger(index, term); got != want {
					t.Errorf("%s: Younger(%d, %d) answers %v", told(has), index, term, got)
				}
			}
		}
		mustHave(t, "asked, not changed", l, has)
	}
}

// rows are all rows of at most n terms from least to most that don't fall.
func rows(n, least, most int) [][]int {
	all := [][]int{nil}
	for from := 0; n > 0; n-- {
		upTo := len(all)
		for _, row := range all[from:upTo] {
			for term := least; term <= most; term++ {
				if len(row) == 0 || row[len(row)-1] <= term {
					all = append(all, append(slices.Clone(row), term))
				}
			}
		}
		from = upTo
	}
	return all
}

// P7.1: each Put into each short log is as the chapter says it, entry by entry.
func TestEveryPutIntoShortLogs(t *testing.T) {
	puts := append(rows(3, 0, 3), []int{2, 1}, []int{1, 1, 0}, []int{3, 2, 3}, []int{1, 3, 2})
	for _, has := range rows(4, 1, 3) {
		for index := -1; index <= len(has)+1; index++ {
			for term := range 4 {
				for _, put := range puts {
					at, fault, then := putByHand(of(has...), index, term, named("new", put...))
					mustPut(t, fmt.Sprint(has), log.New(of(has...)), index, term, named("new", put...), at, fault, then)
				}
			}
		}
	}
}

// putByHand is what Put of a few entries answers, and what the log has then, told in another way than the program's: as a row with the index 0 in front.
func putByHand(has []api.Entry, index, term int, put []api.Entry) (int, api.Errno, []api.Entry) {
	row := append([]api.Entry{{}}, has...)
	if index < 0 || index >= len(row) {
		return 0, api.ErrNone, has
	}
	if row[index].Term != term {
		return 0, api.ErrState, has
	}
	if !slices.IsSortedFunc(append([]api.Entry{row[index]}, put...), func(a, b api.Entry) int { return a.Term - b.Term }) {
		return 0, api.ErrRange, has
	}
	for i, e := range put {
		if at := index + 1 + i; at == len(row) || row[at].Term != e.Term {
			return at, api.OK, slices.Concat(row[1:at], put[i:])
		}
	}
	return 0, api.OK, has
}

// P7.1: many calls, one behind the other, on one log.
func TestManyCalls(t *testing.T) {
	for seed := range uint32(20) {
		l := log.New(nil)
		var has []api.Entry
		draw := drawing(seed)
		for step := 0; step < 150 && !t.Failed(); step++ {
			has = oneCall(t, fmt.Sprintf("seed %d, call %d", seed, step), l, has, draw)
		}
	}
}

// drawing draws numbers below n, the same ones of each seed.
func drawing(x uint32) func(n int) int {
	return func(n int) int {
		x = x*1664525 + 1013904223
		return int(x>>16) % n
	}
}

// oneCall is an Add, or a Put that begins among the last ones: what the log must have then.
func oneCall(t *testing.T, where string, l *log.Log, has []api.Entry, draw func(n int) int) []api.Entry {
	t.Helper()
	row := append([]api.Entry{{}}, has...)
	if draw(3) == 0 {
		e := api.Entry{Term: row[len(row)-1].Term + draw(2), Data: where}
		has = append(has, e)
		mustAdd(t, where, l, e, api.OK, has)
		return has
	}
	index := max(0, len(has)-draw(6))
	var put []api.Entry
	for last := row[index].Term; len(put) < 5 && draw(5) > 0; last = put[len(put)-1].Term {
		put = append(put, api.Entry{Term: last + draw(4)/3, Data: where})
	}
	at, fault, then := putByHand(has, index, row[index].Term, put)
	mustPut(t, where, l, index, row[index].Term, put, at, fault, then)
	return slices.Clone(then)
}

// spoil writes over entries, and over the room behind them.
func spoil(l []api.Entry) {
	l = l[:cap(l)]
	for i := range l {
		l[i] = api.Entry{Term: -77, Data: "spoilt"}
	}
}

// P7.1: what is handed in isn't changed, its spare room neither, and isn't kept.
func TestWhatIsHandedInIsNotShared(t *testing.T) {
	room := many(20, 6)
	handed := room[:3]
	l := log.New(handed)
	l.Add(api.Entry{Term: 6, Data: "added"})
	l.Put(1, 6, named("new", 7, 7))
	if !slices.Equal(room, many(20, 6)) {
		t.Error("New's entries, or the room behind them, were changed:", told(room))
	}
	untouched := log.New(handed)
	spoil(room)
	mustHave(t, "New's entries changed", untouched, many(3, 6))
	mustHave(t, "New's entries changed, behind other calls", l, append(many(1, 6), named("new", 7, 7)...))

	for _, index := range []int{0, 2, 4} {
		l = log.New(of(1, 1, 1, 1))
		term, _ := l.Term(index)
		room = append(named("put", 8, 8, 8), many(20, 9)...)
		was := slices.Clone(room)
		l.Put(index, term, room[:3])
		l.Add(api.Entry{Term: 8, Data: "added"})
		l.Put(index+2, 8, many(5, 10))
		if !slices.Equal(room, was) {
			t.Error("Put's entries, or the room behind them, were changed:", told(room))
		}
		spoil(room)
		mustHave(t, "Put's entries changed", l, slices.Concat(of(1, 1, 1, 1)[:index], was[:2], many(5, 10)))
	}
}

// P7.1: what is handed out is new memory: whoever changes it changes nothing else, and it stays as it was, whatever comes to the log.
func TestWhatIsHandedOutIsNotShared(t *testing.T) {
	has := of(1, 1, 2, 2, 3)
	l := log.New(has)
	l.Add(api.Entry{Term: 3, Data: "added"}) // the log's room is greater than its entries then
	has = append(has, api.Entry{Term: 3, Data: "added"})
	outs := map[string]func() []api.Entry{
		"All":        l.All,
		"From 1":     func() []api.Entry { return l.From(1, 99) },
		"From 3":     func() []api.Entry { return l.From(3, 2) },
		"From 0":     func() []api.Entry { return l.From(0, 1) },
		"From 7":     func() []api.Entry { return l.From(7, 1) },
		"From, none": func() []api.Entry { return l.From(1, 0) },
	}
	for name, out := range outs {
		one, other := out(), out()
		was := slices.Clone(other)
		spoil(one)
		_ = append(one[:0], many(9, 9)...)
		mustHave(t, name+" changed", l, has)
		if !slices.Equal(other, was) {
			t.Errorf("%s: two answers share memory", name)
		}
	}

	all, some, none := l.All(), l.From(3, 2), l.From(9, 1)
	l.Add(api.Entry{Term: 3, Data: "one more"})
	l.Put(2, 1, many(9, 9))
	l.Add(api.Entry{Term: 9, Data: "behind"})
	if !slices.Equal(all, has) || !slices.Equal(some, has[2:4]) || len(none) != 0 {
		t.Error("answers change with the log:", told(all), told(some))
	}

	mine := log.New(of(1, 2, 3))
	twin := log.New(mine.All())
	mine.Put(1, 1, many(2, 9))
	mustHave(t, "a log made of another one's entries", twin, of(1, 2, 3))
}
