package locks_test

import (
	"cmp"
	"maps"
	"slices"

	"kissinggate/api"
)

// hand is a table told in another way than the program's: for each key who holds it, and who waits, each with the time at which it asked. Whoever asks waits first, and may then be let in at once.
type hand struct {
	clock int
	gates map[string]*gate
}

type gate struct {
	held  map[int]int // modes by owner
	waits map[int]want
}

// want is what one waits for.
type want struct {
	owner, mode int
	upgrade     bool
	since       int
}

func byHand() *hand { return &hand{gates: map[string]*gate{}} }

func (h *hand) ask(owner int, key string, mode int) api.Errno {
	if owner < 0 || len(key) > api.MaxKey || mode != api.Shared && mode != api.Sole {
		return api.ErrArg
	}
	if h.gates[key] == nil {
		h.gates[key] = &gate{map[int]int{}, map[int]want{}}
	}
	g := h.gates[key]
	if g.held[owner] >= mode {
		return api.OK
	}
	if _, waits := g.waits[owner]; !waits {
		h.clock++
		g.waits[owner] = want{owner, mode, g.held[owner] > 0, h.clock}
		if slices.Contains(g.letIn(), owner) {
			return api.OK
		}
	}
	return api.ErrWait
}

func (h *hand) leave(owner int) []int {
	in := map[int]int{}
	for key, g := range h.gates {
		delete(g.held, owner)
		delete(g.waits, owner)
		for _, other := range g.letIn() {
			in[other] = 1
		}
		if len(g.held) == 0 {
			delete(h.gates, key)
		}
	}
	return rising(in)
}

func (g *gate) letIn() []int {
	var in []int
	for _, w := range g.queue() {
		sole := slices.Contains(slices.Collect(maps.Values(g.held)), api.Sole)
		may := w.mode == api.Shared && !sole || len(g.held) == 0
		if w.upgrade {
			may = len(g.held) == 1
		}
		if !may {
			break
		}
		delete(g.waits, w.owner)
		g.held[w.owner] = w.mode
		in = append(in, w.owner)
	}
	return in
}

// queue is who waits: upgrades first, and then by time.
func (g *gate) queue() []want {
	return slices.SortedFunc(maps.Values(g.waits), func(a, b want) int {
		if a.upgrade != b.upgrade {
			return map[bool]int{true: -1, false: 1}[a.upgrade]
		}
		return cmp.Compare(a.since, b.since)
	})
}

func (h *hand) lines() []api.Line {
	var l []api.Line
	for _, key := range slices.Sorted(maps.Keys(h.gates)) {
		g, line := h.gates[key], api.Line{Key: key}
		for _, owner := range rising(g.held) {
			line.Holders = append(line.Holders, api.Hold{Owner: owner, Mode: g.held[owner]})
		}
		for _, w := range g.queue() {
			line.Queue = append(line.Queue, api.Hold{Owner: w.owner, Mode: w.mode})
		}
		l = append(l, line)
	}
	return l
}
