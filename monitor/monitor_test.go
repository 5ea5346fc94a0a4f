package monitor_test

import (
	"math"
	"math/rand"
	"slices"
	"testing"

	"donjon/api"
	"donjon/atom"
	"donjon/isa"
	"donjon/monitor"
	"donjon/table"
)

func made(t *testing.T, cores int, owners ...int) *monitor.Monitor {
	t.Helper()
	m, e := monitor.New(cores, owners...)
	if m == nil || e != api.OK {
		t.Fatal(e)
	}
	return m
}

// call is Root's by a core, to delegate a granule to the world 2.
func call(core, granule int) monitor.Ask {
	return monitor.Ask{Core: core, Call: isa.Delegate, Granule: granule, To: 2}
}

func run(t *testing.T, m *monitor.Monitor, a monitor.Ask) {
	t.Helper()
	if is, e := m.Call(a); !is || e != api.OK {
		t.Fatal(a, is, e)
	}
}

func drop(t *testing.T, m *monitor.Monitor, granule int, cores ...int) bool {
	t.Helper()
	all := false
	for _, core := range cores {
		is, e := m.Dropped(granule, core)
		if all || e != api.OK {
			t.Fatal(granule, core, e)
		}
		all = is
	}
	return all
}

func entry(t *testing.T, m *monitor.Monitor, granule, owner int, locked bool) {
	t.Helper()
	if x, e := m.Get(granule); x != (table.Entry{Owner: owner, Locked: locked}) || e != api.OK {
		t.Error("granule", granule, x, e)
	}
}

func TestP14_1New(t *testing.T) {
	many := make([]int, 17)
	for i, x := range []struct {
		cores  int
		owners []int
		want   api.Errno
	}{
		{0, []int{9}, api.ErrRange}, {5, []int{9}, api.ErrRange}, {-1, []int{0}, api.ErrRange}, {math.MaxInt, []int{0}, api.ErrRange}, {math.MinInt, nil, api.ErrRange},
		{1, nil, api.ErrRange}, {1, many, api.ErrRange}, {4, append([]int{7}, many...), api.ErrRange},
		{1, []int{0, 5}, api.ErrArg}, {1, []int{-1}, api.ErrArg}, {1, []int{math.MinInt}, api.ErrArg},
		{4, many[:16], api.OK}, {1, []int{0, 1, 2, 3, 4}, api.OK},
	} {
		m, e := monitor.New(x.cores, x.owners...)
		if e != x.want || (m != nil) != (e == api.OK) {
			t.Error(i, e)
		}
	}
	if monitor.Idle != 0 || monitor.Dropping != 1 || monitor.Sweeping != 2 {
		t.Error("phases are numbered from 0 on")
	}
	m := made(t, 2, 4, 0, 3)
	for g, owner := range []int{4, 0, 3} {
		entry(t, m, g, owner, false)
		if _, is := m.Of(g); is || m.Phase(g) != monitor.Idle || len(m.Waits(g)) != 0 {
			t.Error(g, "is not idle")
		}
	}
	if w := m.Words(); !slices.Equal(w, []int{5, 4, 0, 3}) {
		t.Error("its table is promoted:", w)
	}
}

func TestP14_1CallErrors(t *testing.T) {
	m := made(t, 3, 0, 0, 1, 4)
	run(t, m, call(1, 0))
	was := m.Words()
	for i, x := range []struct {
		a    monitor.Ask
		want api.Errno
	}{
		{monitor.Ask{Core: -1, Granule: -1, Call: 9}, api.ErrArg},
		{monitor.Ask{Core: 3}, api.ErrArg},
		{monitor.Ask{Core: math.MaxInt}, api.ErrArg},
		{monitor.Ask{Core: 1, Granule: 4, World: 9}, api.ErrRange},
		{monitor.Ask{Core: 1, Granule: -1}, api.ErrRange},
		{monitor.Ask{Core: 0, Granule: math.MinInt}, api.ErrRange},
		{monitor.Ask{Core: 1, Granule: 0, Call: 9}, api.ErrBusy},
		{monitor.Ask{Core: 0, Granule: 0, Call: isa.Delegate, To: 1}, api.ErrBusy},
		{monitor.Ask{Core: 1, Granule: 1, Call: 9, World: 9}, api.ErrThere},
		{monitor.Ask{Core: 1, Granule: 1, Call: isa.Delegate, To: 1}, api.ErrThere},
		{monitor.Ask{Core: 0, Granule: 1, Call: 9, World: 4}, api.ErrRange},
		{monitor.Ask{Core: 0, Granule: 1, Call: 9}, api.ErrKind},
		{monitor.Ask{Core: 0, Granule: 2, Call: isa.Delegate, World: 1, To: 1}, api.ErrWorld},
		{monitor.Ask{Core: 0, Granule: 2, Call: isa.Delegate, To: 1}, api.ErrState},
		{monitor.Ask{Core: 0, Granule: 1, Call: isa.Delegate, To: 4}, api.ErrArg},
		{monitor.Ask{Core: 2, Granule: 3, Call: isa.Share}, api.ErrState},
		{monitor.Ask{Core: 2, Granule: 2, Call: isa.Revoke, World: 2}, api.ErrWorld},
	} {
		if is, e := m.Call(x.a); is || e != x.want {
			t.Error(i, is, e)
		}
	}
	if !slices.Equal(m.Words(), was) || !slices.Equal(slices.Collect(m.Running()), []int{0}) {
		t.Error("an error turned something")
	}
	if a, _ := m.Of(0); a != call(1, 0) || !slices.Equal(m.Waits(0), []int{0, 1, 2}) {
		t.Error(a)
	}
}

func TestP14_1Call(t *testing.T) {
	m := made(t, 4, 0, 3, 0)
	run(t, m, monitor.Ask{Core: 2, World: 3, Call: isa.Transfer, Granule: 1, To: 1})
	entry(t, m, 1, 3, true)
	entry(t, m, 0, 0, false)
	if a, is := m.Of(1); a != (monitor.Ask{Core: 2, World: 3, Call: isa.Transfer, Granule: 1, To: 1}) || !is || m.Phase(1) != monitor.Dropping {
		t.Error(a, is)
	}
	if w := m.Waits(1); !slices.Equal(w, []int{0, 1, 2, 3}) {
		t.Error(w)
	}
	run(t, m, call(3, 2)) // of another granule, by another core
}

func TestP14_1AGranuleThatWasOnlyLockedInTheTable(t *testing.T) {
	m := made(t, 1, 0)
	m.Set(0, table.Entry{Locked: true})
	run(t, m, call(0, 0))
	drop(t, m, 0, 0)
	m.Swept(0)
	entry(t, m, 0, 2, false)
}

func TestP14_2Dropped(t *testing.T) {
	m := made(t, 3, 0, 0)
	for _, g := range []int{-1, 2, math.MinInt, math.MaxInt} {
		if is, e := m.Dropped(g, 9); is || e != api.ErrRange {
			t.Error(g, is, e)
		}
	}
	if is, e := m.Dropped(0, 9); is || e != api.ErrState {
		t.Error(is, e)
	}
	run(t, m, call(0, 0))
	for _, core := range []int{-1, 3, 4, math.MinInt, math.MaxInt} {
		if is, e := m.Dropped(0, core); is || e != api.ErrNone {
			t.Error(core, is, e)
		}
	}
	if drop(t, m, 0, 2, 0) || !slices.Equal(m.Waits(0), []int{1}) || m.Phase(0) != monitor.Dropping {
		t.Error(m.Waits(0))
	}
	if is, e := m.Dropped(0, 2); is || e != api.ErrNone {
		t.Error("it is not waited for any more:", is, e)
	}
	if !drop(t, m, 0, 1) || len(m.Waits(0)) != 0 || m.Phase(0) != monitor.Sweeping {
		t.Error(m.Waits(0))
	}
	entry(t, m, 0, 0, true)
	if is, e := m.Dropped(0, 1); is || e != api.ErrState {
		t.Error("it is Sweeping:", is, e)
	}
}

func TestP14_2DroppedOfFourCores(t *testing.T) {
	m := made(t, 4, 0)
	run(t, m, call(3, 0))
	for _, core := range []int{-1, 4, 5} {
		if is, e := m.Dropped(0, core); is || e != api.ErrNone {
			t.Error(core, is, e)
		}
	}
	if !drop(t, m, 0, 3, 1, 0, 2) {
		t.Error("all dropped it")
	}
}

func TestP14_2Swept(t *testing.T) {
	m := made(t, 2, 0, 3)
	for _, g := range []int{-1, 2, math.MinInt, math.MaxInt} {
		if x, e := m.Swept(g); x != (monitor.Told{}) || e != api.ErrRange {
			t.Error(g, x, e)
		}
	}
	if x, e := m.Swept(0); x != (monitor.Told{}) || e != api.ErrState {
		t.Error(x, e)
	}
	a := monitor.Ask{Core: 1, World: 3, Call: isa.Share, Granule: 1, To: 77}
	run(t, m, a)
	if x, e := m.Swept(1); x != (monitor.Told{}) || e != api.ErrState {
		t.Error("it is Dropping:", x, e)
	}
	drop(t, m, 1, 0, 1)
	if x, e := m.Swept(1); x != (monitor.Told{Ask: a, Then: 4}) || e != api.OK {
		t.Error(x, e)
	}
	entry(t, m, 1, 4, false)
	if _, is := m.Of(1); is || m.Phase(1) != monitor.Idle {
		t.Error("it runs no more")
	}
	if x, e := m.Swept(1); x != (monitor.Told{}) || e != api.ErrState {
		t.Error(x, e)
	}
	run(t, m, call(1, 0))
}

func TestP14_2WhatTheJudgeToldWhenItWasCalled(t *testing.T) {
	m := made(t, 1, 0)
	run(t, m, call(0, 0))
	m.Set(0, table.Entry{Owner: 3})
	drop(t, m, 0, 0)
	if x, e := m.Swept(0); x != (monitor.Told{Ask: call(0, 0), Then: 2, Scrub: true}) || e != api.OK {
		t.Error(x, e)
	}
	entry(t, m, 0, 2, false)
}

func TestP14_3Running(t *testing.T) {
	m := made(t, 4, make([]int, 16)...)
	for core, g := range []int{11, 3, 15, 0} {
		run(t, m, call(core, g))
	}
	running := m.Running()
	drop(t, m, 3, 0, 1, 2, 3)
	m.Swept(3)
	for range 2 {
		if got := slices.Collect(running); !slices.Equal(got, []int{0, 3, 11, 15}) {
			t.Error(got)
		}
	}
	if got := slices.Collect(m.Running()); !slices.Equal(got, []int{0, 11, 15}) {
		t.Error(got)
	}
	for range running {
		break
	}
}

func TestP14_3OfNoGranule(t *testing.T) {
	m := made(t, 1, 0)
	for _, g := range []int{-1, 1, math.MinInt, math.MaxInt} {
		if a, is := m.Of(g); a != (monitor.Ask{}) || is || m.Phase(g) != monitor.Idle || len(m.Waits(g)) != 0 {
			t.Error(g, a, is)
		}
	}
}

func TestP14_3Copy(t *testing.T) {
	m := made(t, 2, 0, 0)
	run(t, m, call(0, 0))
	c := m.Copy()
	drop(t, c, 0, 0, 1)
	c.Swept(0)
	run(t, c, call(1, 1))
	entry(t, m, 0, 0, true)
	entry(t, m, 1, 0, false)
	if !slices.Equal(m.Waits(0), []int{0, 1}) || !slices.Equal(slices.Collect(m.Running()), []int{0}) {
		t.Error(m.Waits(0))
	}
	drop(t, m, 0, 1)
	if !slices.Equal(m.Waits(0), []int{0}) {
		t.Error(m.Waits(0))
	}
}

func TestP14_3Nil(t *testing.T) {
	var m *monitor.Monitor
	is, e := m.Call(monitor.Ask{Core: -1})
	all, f := m.Dropped(-1, -1)
	x, g := m.Swept(-1)
	a, of := m.Of(0)
	if is || all || of || x != (monitor.Told{}) || a != (monitor.Ask{}) || e != api.ErrNil || f != api.ErrNil || g != api.ErrNil {
		t.Error(is, all, x, a, of, e, f, g)
	}
	if m.Phase(0) != monitor.Idle || len(m.Waits(0)) != 0 || m.Copy() != nil || len(slices.Collect(m.Running())) != 0 {
		t.Error("of a nil monitor")
	}
}

func TestP14_Example(t *testing.T) {
	m := made(t, 2, 0, 1)
	run(t, m, call(0, 0))
	if is, e := m.Call(call(1, 0)); is || e != api.ErrBusy {
		t.Error(is, e)
	}
	if !drop(t, m, 0, 1, 0) {
		t.Error("all dropped it")
	}
	if x, e := m.Swept(0); x.Then != 2 || !x.Scrub || x.Core != 0 || e != api.OK {
		t.Error(x, e)
	}
}

func TestP14_4LockedAsLongAsACallRuns(t *testing.T) {
	for seed := range int64(100) {
		r := rand.New(rand.NewSource(seed))
		cores := 1 + r.Intn(4)
		owners := make([]int, 1+r.Intn(6))
		for g := range owners {
			owners[g] = r.Intn(5)
		}
		m := made(t, cores, owners...)
		for range 500 {
			was, words := m.Copy(), m.Words()
			g := r.Intn(len(owners))
			var e api.Errno
			switch r.Intn(3) {
			case 0:
				_, e = m.Call(monitor.Ask{Core: r.Intn(cores), World: r.Intn(4), Call: 1 + r.Intn(4), Granule: g, To: r.Intn(4)})
			case 1:
				_, e = m.Dropped(g, r.Intn(cores))
			case 2:
				x, f := m.Swept(g)
				e = f
				if f == api.OK {
					then, scrub, _ := atom.Judge(x.Call, x.World, owners[g], x.To)
					if x.Then != then || x.Scrub != scrub {
						t.Fatal(seed, x)
					}
					owners[g] = then
				}
			}
			if e != api.OK && (!slices.Equal(m.Words(), words) || !slices.Equal(slices.Collect(m.Running()), slices.Collect(was.Running())) || !slices.Equal(m.Waits(g), was.Waits(g))) {
				t.Fatal(seed, "an error turned something")
			}
			for g, owner := range owners {
				entry(t, m, g, owner, m.Phase(g) != monitor.Idle)
			}
		}
	}
}
