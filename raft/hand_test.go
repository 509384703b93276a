package raft_test

import (
	"slices"

	"kissinggate/api"
	"kissinggate/raft"
)

// hand is a node told in another way than the program's: a row with the index 0 in front, each entry of which knows whether it was saved, and sets of nodes as maps.
type hand struct {
	id, n, elect, beat  int
	term, vote          int
	row                 []slot
	commit, role        int
	leader, since       int
	yes, heard          map[int]bool
	has, needs          map[int]int
	out                 []api.Message
	savedTerm, savedFor int // the vote
}

type slot struct {
	api.Entry
	saved bool
}

func byHand(id, n, elect, beat int, s api.State) *hand {
	h := &hand{id: id, n: n, elect: elect, beat: beat, term: s.Term, vote: s.Vote, savedTerm: s.Term, savedFor: s.Vote, leader: -1}
	h.row = []slot{{saved: true}}
	for _, e := range s.Entries {
		h.row = append(h.row, slot{e, true})
	}
	return h
}

func (h *hand) last() (index, term int) {
	return len(h.row) - 1, h.row[len(h.row)-1].Term
}

func (h *hand) view() view {
	return view{h.role, h.term, h.leader, h.commit, len(h.row) - 1}
}

func (h *hand) entries(from, to int) []api.Entry {
	var l []api.Entry
	for i := max(from, 1); i <= to && i < len(h.row); i++ {
		l = append(l, h.row[i].Entry)
	}
	return l
}

func (h *hand) state() api.State {
	return api.State{Term: h.term, Vote: h.vote, Entries: h.entries(1, len(h.row))}
}

func (h *hand) save() (api.Save, bool) {
	var s api.Save
	if h.term != h.savedTerm || h.vote != h.savedFor {
		s.Hard, s.Term, s.Vote = true, h.term, h.vote
	}
	if at := slices.IndexFunc(h.row, func(x slot) bool { return !x.saved }); at > 0 {
		s.From, s.Entries = at, h.entries(at, len(h.row))
	}
	h.savedTerm, h.savedFor = h.term, h.vote
	for i := range h.row {
		h.row[i].saved = true
	}
	return s, s.Hard || s.From > 0
}

func (h *hand) sent() []api.Message {
	out := h.out
	h.out = nil
	return out
}

func (h *hand) send(m api.Message) {
	m.From = h.id
	h.out = append(h.out, m)
}

func (h *hand) others(do func(to int)) {
	for to := 0; to < h.n; to++ {
		if to != h.id {
			do(to)
		}
	}
}

func (h *hand) appendTo(to int) {
	at := h.needs[to] - 1
	h.send(api.Message{Kind: api.Append, To: to, Term: h.term, Index: at, LogTerm: h.row[at].Term, Commit: h.commit, Entries: h.entries(at+1, at+api.MaxBatch)})
}

func (h *hand) follow(term, leader int) {
	if term > h.term {
		h.term, h.vote = term, -1
	}
	h.role, h.leader = raft.Follower, leader
}

func (h *hand) tick(draw int) {
	h.since++
	if h.role == raft.Leader {
		if h.since%h.beat == 0 {
			h.others(h.appendTo)
		}
		if h.since%h.elect == 0 {
			if len(h.heard)*2 <= h.n {
				h.follow(h.term, -1)
			}
			h.heard = map[int]bool{h.id: true}
		}
		return
	}
	if draw < 0 {
		draw = 0
	}
	if h.since < h.elect+draw%h.elect || h.term == api.MaxTerm {
		return
	}
	h.since, h.role, h.leader = 0, raft.Asker, -1
	index, term := h.last()
	h.others(func(to int) {
		h.send(api.Message{Kind: api.AskPre, To: to, Term: h.term + 1, Index: index, LogTerm: term})
	})
	h.yes = map[int]bool{h.id: true}
	h.count()
}

// count goes on as long as those who said yes are enough.
func (h *hand) count() {
	if h.role == raft.Asker && len(h.yes)*2 > h.n {
		h.term, h.vote, h.since, h.role = h.term+1, h.id, 0, raft.Candidate
		index, term := h.last()
		h.others(func(to int) {
			h.send(api.Message{Kind: api.AskVote, To: to, Term: h.term, Index: index, LogTerm: term})
		})
		h.yes = map[int]bool{h.id: true}
	}
	if h.role != raft.Candidate || len(h.yes)*2 <= h.n {
		return
	}
	h.since, h.role, h.leader, h.heard = 0, raft.Leader, h.id, map[int]bool{h.id: true}
	h.has, h.needs = map[int]int{}, map[int]int{}
	h.others(func(to int) { h.has[to], h.needs[to] = 0, len(h.row) })
	if h.propose("") != api.OK {
		h.follow(h.term, -1)
	}
}

func (h *hand) propose(data string) api.Errno {
	switch {
	case h.role != raft.Leader:
		return api.ErrLead
	case len(data) > api.MaxCommand:
		return api.ErrLong
	case len(h.row) > api.MaxEntries:
		return api.ErrFull
	}
	h.row = append(h.row, slot{api.Entry{Term: h.term, Data: data}, false})
	h.commitWhatIsHad()
	h.others(h.appendTo)
	return api.OK
}

// commitWhatIsHad asks each index, from the last one on, how many have it.
func (h *hand) commitWhatIsHad() bool {
	for index := len(h.row) - 1; index > h.commit; index-- {
		count := 1
		h.others(func(to int) {
			if h.has[to] >= index {
				count++
			}
		})
		if count*2 > h.n && h.row[index].Term == h.term {
			h.commit = index
			return true
		}
	}
	return false
}

func (h *hand) isElder(m api.Message) bool {
	index, term := h.last()
	return m.LogTerm < term || m.LogTerm == term && m.Index < index
}

func (h *hand) step(m api.Message) {
	right := m.To == h.id && m.From != h.id && m.From >= 0 && m.From < h.n && m.Term >= 0 && m.Term <= api.MaxTerm && len(m.Entries) <= api.MaxBatch
	for _, e := range m.Entries {
		right = right && e.Term >= 1 && e.Term <= m.Term && len(e.Data) <= api.MaxCommand
	}
	if !right {
		return
	}
	own := m.Term <= h.term
	if !own && slices.Contains([]int{api.AskVote, api.TellVote, api.Append, api.Told}, m.Kind) {
		h.follow(m.Term, -1)
	}
	late := m.Term < h.term
	switch {
	case m.Kind == api.AskPre:
		h.stepAskPre(m)
	case m.Kind == api.TellPre && !m.Yes && !own:
		h.follow(m.Term, -1)
	case m.Kind == api.TellPre && m.Yes && m.Term == h.term+1 && h.role == raft.Asker:
		h.yes[m.From] = true
		h.count()
	case m.Kind == api.Append && late:
		h.send(api.Message{Kind: api.Told, To: m.From, Term: h.term})
	case late:
	case m.Kind == api.AskVote:
		yes := (h.vote == -1 || h.vote == m.From) && h.role != raft.Leader && !h.isElder(m)
		if yes {
			h.vote, h.since = m.From, 0
		}
		h.send(api.Message{Kind: api.TellVote, To: m.From, Term: h.term, Yes: yes})
	case m.Kind == api.TellVote && m.Yes && h.role == raft.Candidate:
		h.yes[m.From] = true
		h.count()
	case m.Kind == api.Append && h.role != raft.Leader:
		h.stepAppend(m)
	case m.Kind == api.Told && h.role == raft.Leader:
		h.heard[m.From] = true
		h.stepTold(m)
	}
}

func (h *hand) stepAskPre(m api.Message) {
	answer := api.Message{Kind: api.TellPre, To: m.From, Term: h.term}
	if m.Term > h.term && !h.isElder(m) && h.role != raft.Leader && (h.leader == -1 || h.since >= h.elect) {
		answer.Term, answer.Yes = m.Term, true
	}
	h.send(answer)
}

func (h *hand) stepAppend(m api.Message) {
	h.follow(h.term, m.From)
	h.since = 0
	answer := api.Message{Kind: api.Told, To: m.From, Term: h.term}
	switch {
	case m.Index < h.commit:
		answer.Yes, answer.Index = true, h.commit
	case h.put(m):
		answer.Yes, answer.Index = true, m.Index+len(m.Entries)
		h.commit = max(h.commit, min(m.Commit, answer.Index))
	default:
		answer.Index = max(0, min(len(h.row)-1, m.Index-1))
	}
	h.send(answer)
}

func (h *hand) put(m api.Message) bool {
	if m.Index >= len(h.row) || h.row[m.Index].Term != m.LogTerm {
		return false
	}
	term := m.LogTerm
	for _, e := range m.Entries {
		if e.Term < term {
			return false
		}
		term = e.Term
	}
	for i, e := range m.Entries {
		at := m.Index + 1 + i
		if at < len(h.row) && h.row[at].Term == e.Term {
			continue
		}
		if m.Index+len(m.Entries) > api.MaxEntries {
			return false
		}
		h.row = h.row[:at]
		for _, e := range m.Entries[i:] {
			h.row = append(h.row, slot{e, false})
		}
		return true
	}
	return true
}

func (h *hand) stepTold(m api.Message) {
	from := m.From
	if !m.Yes {
		need := h.needs[from] - 1
		if m.Index < need {
			need = m.Index + 1
			if h.needs[from]-1 < need {
				need = h.needs[from] - 1
			}
		}
		h.needs[from] = max(need, h.has[from]+1)
		h.appendTo(from)
		return
	}
	if m.Index < 0 || m.Index >= len(h.row) {
		return
	}
	h.has[from] = max(h.has[from], m.Index)
	h.needs[from] = h.has[from] + 1
	if h.commitWhatIsHad() {
		h.others(h.appendTo)
	}
	if h.needs[from] < len(h.row) {
		h.appendTo(from)
	}
}
