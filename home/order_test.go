package home_test

import (
	"math/rand"
	"slices"
	"testing"

	"donjon/api"
	"donjon/home"
)

// row is what a line's requests have to be: those that wait, in the order in which they came.
type row struct {
	waits  []api.Note
	orders []api.Note // probes that were not answered
	grants []api.Note // grants that were not told to have come
}

// TestP12_6OneAtATimeInOrder lets any requests come, and any answers to what is asked, in any order.
func TestP12_6OneAtATimeInOrder(t *testing.T) {
	for seed := range int64(150) {
		r := rand.New(rand.NewSource(seed))
		cores := 1 + r.Intn(4)
		h := made(t, cores)
		var rows [4]row
		for range 400 {
			line := r.Intn(4)
			turn(t, r, h, cores, line, &rows[line])
			for l := range 4 {
				holders(t, h, l)
				if busy := len(rows[l].orders)+len(rows[l].grants) > 0; h.Busy(l) != busy || h.Waits(l) != len(rows[l].waits) {
					t.Fatal(seed, l, h.Busy(l), h.Waits(l))
				}
			}
		}
	}
}

// holders holds that an owner is no sharer, and that sharers rise.
func holders(t *testing.T, h *home.Home, line int) {
	t.Helper()
	owner, sharers, e := h.Who(line)
	if e != api.OK || slices.Contains(sharers, owner) || !slices.IsSorted(sharers) {
		t.Fatal(line, owner, sharers, e)
	}
}

func turn(t *testing.T, r *rand.Rand, h *home.Home, cores, line int, w *row) {
	t.Helper()
	switch r.Intn(4) {
	case 0:
		n := api.Note{Kind: api.GetS + r.Intn(4), Core: r.Intn(cores), Line: line, World: r.Intn(4)}
		if n.Kind > api.Put {
			n = api.Note{Line: line}
			h.Sweep(line)
		} else {
			take(t, h, n)
		}
		w.waits = append(w.waits, n)
	case 1:
		start(t, h, line, w)
	case 2:
		if len(w.orders) == 0 {
			return
		}
		at := r.Intn(len(w.orders))
		n := api.Note{Kind: api.Reply, Core: w.orders[at].Core, Line: line, State: r.Intn(5)}
		w.orders = slices.Delete(w.orders, at, at+1)
		w.grants = append(w.grants, take(t, h, n)...)
		if len(w.orders) > 0 && len(w.grants) > 0 {
			t.Fatal("granted ahead of all replies")
		}
	case 3:
		if len(w.grants) > 0 {
			take(t, h, api.Note{Kind: api.Done, Core: w.grants[0].Core, Line: line})
			w.grants = nil
		}
	}
}

// start begins with the first request of a row, if it can be begun: the notes tell that it is that one.
func start(t *testing.T, h *home.Home, line int, w *row) {
	t.Helper()
	busy := len(w.orders)+len(w.grants) > 0
	notes, e := h.Begin(line, &judge{})
	switch {
	case busy:
		if e != api.ErrState {
			t.Fatal(e)
		}
		return
	case len(w.waits) == 0:
		if e != api.ErrNone {
			t.Fatal(e)
		}
		return
	}
	first := w.waits[0]
	w.waits = w.waits[1:]
	for _, n := range notes {
		want := map[int]bool{api.Probe: first.Kind != api.Put, api.Grant: first.Kind == api.GetS || first.Kind == api.GetM,
			api.PutAck: first.Kind == api.Put, api.Nack: first.World == 3 && first.Kind != api.Put}[n.Kind]
		if !want || n.Line != line || n.Kind != api.Probe && n.Core != first.Core {
			t.Fatal(first, n)
		}
		switch n.Kind {
		case api.Probe:
			w.orders = append(w.orders, n)
		case api.Grant:
			w.grants = append(w.grants, n)
		}
	}
}
