package cache_test

import (
	"math/rand"
	"slices"
	"testing"

	"donjon/api"
	"donjon/cache"
	"donjon/home"
	"donjon/moesi"
	"donjon/note"
)

// judge lets now and then no one have a line.
type judge struct{ r *rand.Rand }

func (j judge) May(_, line int) (int, bool) { return line % 4, j.r.Intn(6) > 0 }

// world is a home with caches, and notes that are on their way, in no order.
type world struct {
	h      *home.Home
	caches []*cache.Cache
	notes  []api.Note
	last   map[[2]int]int // what was written last, by line and place
}

func TestP13_5WithAHome(t *testing.T) {
	for seed := range int64(200) {
		r := rand.New(rand.NewSource(seed))
		c := config(1+r.Intn(4), 1+r.Intn(2), 1+r.Intn(2))
		h, _ := home.New(c)
		w := &world{h: h, last: map[[2]int]int{}}
		for core := range c.Cores {
			one, e := cache.New(c, core)
			if e != api.OK {
				t.Fatal(e)
			}
			w.caches = append(w.caches, one)
		}
		for step := range 1500 {
			w.turn(t, r, step)
			for line := range 6 {
				w.fits(t, line)
			}
		}
		w.drain(t, r)
	}
}

func (w *world) turn(t *testing.T, r *rand.Rand, step int) {
	t.Helper()
	switch r.Intn(4) {
	case 0:
		if r.Intn(20) == 0 {
			w.h.Sweep(r.Intn(6))
		}
		c := w.caches[r.Intn(len(w.caches))]
		w.access(t, c, r.Intn(6), r.Intn(2), step, r.Intn(2) == 0)
	case 1:
		w.begin(t, r)
	default:
		w.deliver(t, r)
	}
}

// access reads or writes a word, or asks for its line.
func (w *world) access(t *testing.T, c *cache.Cache, line, at, v int, write bool) {
	t.Helper()
	owner := line % 4
	switch {
	case !c.May(line, owner, write):
		n, _ := c.Want(line, 1, write)
		w.notes = append(w.notes, n...)
	case write:
		if e := c.Write(line, at, owner, v); e != api.OK {
			t.Fatal(e)
		}
		w.last[[2]int{line, at}] = v
	default:
		if got, e := c.Read(line, at, owner); got != w.last[[2]int{line, at}] || e != api.OK {
			t.Fatal("read", got, e, "not", w.last[[2]int{line, at}])
		}
	}
}

func (w *world) begin(t *testing.T, r *rand.Rand) {
	t.Helper()
	ready := slices.Collect(w.h.Ready())
	if len(ready) == 0 {
		return
	}
	n, e := w.h.Begin(ready[r.Intn(len(ready))], judge{r})
	if e != api.OK {
		t.Fatal(e)
	}
	w.notes = append(w.notes, n...)
}

func (w *world) deliver(t *testing.T, r *rand.Rand) {
	t.Helper()
	if len(w.notes) == 0 {
		return
	}
	at := r.Intn(len(w.notes))
	n := w.notes[at]
	w.notes = slices.Delete(w.notes, at, at+1)
	var more []api.Note
	var e api.Errno
	if note.Home(n.Kind) {
		more, e = w.h.Take(n)
	} else {
		more, e = w.caches[n.Core].Take(n)
	}
	if e != api.OK {
		t.Fatal(n, e)
	}
	w.notes = append(w.notes, more...)
}

// fits holds that of a line no more than one copy answers, one that may be written is alone, and all are the same.
func (w *world) fits(t *testing.T, line int) {
	t.Helper()
	var states []int
	for _, c := range w.caches {
		if x, e := c.Peek(line); e == api.OK {
			states = append(states, x.State)
			for at, v := range x.Data {
				if v != w.last[[2]int{line, at}] {
					t.Fatal("line", line, "copy", x, "not", w.last[[2]int{line, at}])
				}
			}
		}
	}
	if !moesi.Fit(states...) || slices.Contains(states, api.Invalid) {
		t.Fatal("line", line, "states", states)
	}
}

// drain lets all that is on its way come, then sweeps all lines: memory has what was written last.
func (w *world) drain(t *testing.T, r *rand.Rand) {
	t.Helper()
	for range 2 {
		for range 3000 {
			w.begin(t, r)
			w.deliver(t, r)
		}
		for line := range 6 {
			w.h.Sweep(line)
		}
	}
	for range 3000 {
		w.begin(t, r)
		w.deliver(t, r)
	}
	for line := range 6 {
		if w.h.Busy(line) || w.h.Waits(line) != 0 || len(w.notes) != 0 {
			t.Fatal("not all came")
		}
		for at := range 2 {
			if v, _ := w.h.Get(2*line + at); v != w.last[[2]int{line, at}] {
				t.Fatal(line, at, v)
			}
		}
	}
	for _, c := range w.caches {
		if c.Len() != 0 {
			t.Fatal("a copy is left behind the sweeps")
		}
	}
}
