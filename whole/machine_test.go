package whole

import (
	"math/rand"
	"slices"
	"testing"

	"donjon/api"
	"donjon/core"
	"donjon/machine"
)

// TestP16_AnErrorTurnsNothing picks anything: what cannot be done leaves all as it was.
func TestP16_AnErrorTurnsNothing(t *testing.T) {
	errors := map[api.Errno]int{}
	for seed := range int64(150) {
		r := rand.New(rand.NewSource(seed))
		c := sample(r, false)
		m := made(t, c)
		for range 400 {
			d, is := pick(r, m)
			if !is {
				break
			}
			was := stateOf(m, c.Cores)
			n, e := m.Do(d)
			if e != api.OK && (n != 0 || !was.same(stateOf(m, c.Cores))) {
				t.Fatal(seed, d, n, e)
			}
			errors[e]++
		}
	}
	for _, e := range []api.Errno{api.OK, api.ErrFull, api.ErrArg, api.ErrRange, api.ErrNone, api.ErrState, api.ErrOver, api.ErrBusy} {
		if errors[e] == 0 {
			t.Error(e, "never came")
		}
	}
}

// TestP16_6CoresAreTold lets a core (15) do what a machine's did, by what that was told.
func TestP16_6CoresAreTold(t *testing.T) {
	for seed := range int64(150) {
		r := rand.New(rand.NewSource(seed))
		c := sample(r, false)
		m := made(t, c)
		var cores []*core.Core
		for i := range c.Cores {
			one, e := core.New(i, c.Worlds[i], c.Programs[i]...)
			if e != api.OK {
				t.Fatal(e)
			}
			cores = append(cores, one)
		}
		done := 0
		for range 500 {
			d, is := pick(r, m)
			if !is {
				break
			}
			m.Do(d)
			for _, x := range slices.Collect(m.Log())[done:] {
				got, local := cores[x.Core].Local()
				if !local {
					got, _ = cores[x.Core].Retire(x.Value, x.Code)
				}
				if got != x {
					t.Fatal(seed, got, x)
				}
				done++
			}
			for i, one := range cores {
				if is, _ := m.Core(i); is != one.Core {
					t.Fatal(seed, i, is, one.Core)
				}
			}
		}
	}
}

// TestP16_7WhatIsNotReadyCannotBeDone tries all that may be told.
func TestP16_7WhatIsNotReadyCannotBeDone(t *testing.T) {
	for seed := range int64(60) {
		r := rand.New(rand.NewSource(seed))
		c := sample(r, false)
		m := made(t, c)
		for range 120 {
			d, is := pick(r, m)
			if !is {
				break
			}
			m.Do(d)
			ready := m.Ready()
			if (len(ready) == 0) != m.Over() {
				t.Fatal(seed, "nothing is ready just if all is over")
			}
			for what := -1; what <= 4; what++ {
				for a := -1; a <= 2*c.Granules; a++ {
					for b := -1; b <= 4; b++ {
						unready(t, m, ready, machine.Do{What: what, A: a, B: b})
					}
				}
			}
		}
	}
}

// unready holds that something cannot be done, unless it is ready.
func unready(t *testing.T, m *machine.Machine, ready []machine.Do, d machine.Do) {
	t.Helper()
	of := d
	if d.What != machine.Deliver {
		of.B = 0
	}
	if slices.Contains(ready, of) {
		return
	}
	if n, e := m.Do(d); n != 0 || e == api.OK {
		t.Fatal(d, n, e)
	}
}

// TestP16_5Copy lets a machine and its copy go on by themselves, the same way, and in other ways.
func TestP16_5Copies(t *testing.T) {
	for seed := range int64(60) {
		r := rand.New(rand.NewSource(seed))
		c := sample(r, false)
		m := made(t, c)
		for range 60 {
			if d, is := pick(r, m); is {
				m.Do(d)
			}
		}
		kept := stateOf(m, c.Cores)
		o := m.Copy()
		a, b := rand.New(rand.NewSource(seed)), rand.New(rand.NewSource(seed))
		p := m.Copy()
		for range 60 {
			if d, is := pick(a, o); is {
				o.Do(d)
			}
		}
		if !kept.same(stateOf(m, c.Cores)) {
			t.Fatal(seed, "a copy is of its own")
		}
		for range 60 {
			if d, is := pick(b, p); is {
				p.Do(d)
			}
		}
		if !stateOf(o, c.Cores).same(stateOf(p, c.Cores)) || !slices.Equal(slices.Collect(o.Log()), slices.Collect(p.Log())) {
			t.Fatal(seed, "copies do the same")
		}
	}
}
