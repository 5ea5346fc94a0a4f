package machine

import (
	"slices"

	"donjon/api"
	"donjon/checker"
	"donjon/core"
	"donjon/isa"
	"donjon/monitor"
	"donjon/place"
	"donjon/table"
)

// An error turns nothing: where more than one part turns, it is tried with copies of these, which take
// their places once all is done.

// judge tells the home what the monitor's table says.
type judge struct {
	config  place.Config
	monitor *monitor.Monitor
}

// May tells who owns a line, and whether a world may have it.
func (j judge) May(world, line int) (owner int, is bool) {
	granule, e := place.Granule(j.config, line)
	if e != api.OK {
		return 0, false
	}
	x, e := j.monitor.Get(granule)
	return x.Owner, e == api.OK && !x.Locked && table.May(world, x.Owner)
}

// step does a core's next instruction, or what has to be done ahead of it.
func (m *Machine) step(d Do) api.Errno {
	if !m.has(d.A) {
		return api.ErrRange
	}
	x, is := m.cores[d.A].Next()
	switch {
	case !is:
		return api.ErrOver
	case m.Waits(d.A):
		return api.ErrState
	case x.Op == isa.Call:
		return m.call(d.A)
	case isa.Memory(x.Op):
		return m.access(d.A)
	}
	if e, done := m.cores[d.A].Local(); done {
		m.log = append(m.log, e)
	}
	return api.OK
}

// retire ends a core's next instruction: its event comes into the log.
func (m *Machine) retire(i, value int, code api.Errno) api.Errno {
	x, e := m.cores[i].Retire(value, code)
	if e == api.OK {
		m.log = append(m.log, x)
	}
	return e
}

// call calls the monitor: if it takes the call, each core is told to forget the granule.
func (m *Machine) call(i int) api.Errno {
	ask, _ := m.cores[i].Ask()
	called := m.monitor.Copy()
	if _, e := called.Call(ask); e != api.OK {
		return m.retire(i, 0, e)
	}
	var notes []api.Note
	for to := range m.cores {
		notes = append(notes, api.Note{Kind: api.Drop, Core: to, No: ask.Granule})
	}
	if e := m.fabric.Send(notes...); e != api.OK {
		return e
	}
	m.monitor = called
	return api.OK
}

// access goes to memory, as far as the checker and the cache let it.
func (m *Machine) access(i int) api.Errno {
	a, _ := m.cores[i].Access()
	line, at, e := place.Line(m.config, a.Word)
	if e != api.OK {
		return m.retire(i, 0, api.ErrFault)
	}
	granule, e := place.Granule(m.config, line)
	if e != api.OK {
		return e
	}
	answer, e := m.checkers[i].Ask(m.cores[i].World, granule)
	if e != api.OK {
		return e
	}
	switch answer {
	case checker.Miss:
		return m.walk(i, granule)
	case checker.Deny:
		return m.retire(i, 0, api.ErrFault)
	}
	owner := m.owner(i, granule)
	if m.caches[i].May(line, owner, a.Write) {
		return m.use(i, line, at, owner, a)
	}
	return m.want(i, line, a.Write)
}

// owner is who owns a granule, as far as a core's checker knows.
func (m *Machine) owner(i, granule int) int {
	for of, owner := range m.checkers[i].All() {
		if of == granule {
			return owner
		}
	}
	return api.Root
}

// walk lets a core's checker begin to walk.
func (m *Machine) walk(i, granule int) api.Errno {
	walks := m.checkers[i].Copy()
	at, e := walks.Begin(granule)
	if e != api.OK {
		return e
	}
	if e := m.fabric.Send(api.Note{Kind: api.Walk, Core: i, No: at}); e != api.OK {
		return e
	}
	m.checkers[i] = walks
	return api.OK
}

// use reads and writes a word that the cache has.
func (m *Machine) use(i, line, at, owner int, a core.Access) api.Errno {
	value, e := 0, api.OK
	if a.Read {
		value, e = m.caches[i].Read(line, at, owner)
	}
	if e == api.OK && a.Write {
		e = m.caches[i].Write(line, at, owner, a.Value)
	}
	if e != api.OK {
		return e
	}
	return m.retire(i, value, api.OK)
}

// want lets a core's cache ask for a line.
func (m *Machine) want(i, line int, write bool) api.Errno {
	asks := m.caches[i].Twin()
	notes, e := asks.Want(line, m.cores[i].World, write)
	if e != api.OK {
		return e
	}
	if e := m.fabric.Send(notes...); e != api.OK {
		return e
	}
	m.caches[i] = asks
	return api.OK
}

// deliver brings a note to whom it goes.
func (m *Machine) deliver(d Do) api.Errno {
	tried := *m // shares all parts with m, but for those that come gives it
	tried.fabric = m.fabric.Copy()
	n, e := tried.fabric.Take(d.A, d.B, d.C)
	if e != api.OK {
		return e
	}
	notes, e := tried.come(n)
	if e != api.OK {
		return e
	}
	if e := tried.fabric.Send(notes...); e != api.OK {
		return e
	}
	*m = tried
	return api.OK
}

// come takes a note with copies of the parts that it turns: what goes out.
func (m *Machine) come(n api.Note) ([]api.Note, api.Errno) {
	switch n.Kind {
	case api.Grant, api.Nack, api.PutAck, api.Probe:
		m.caches = slices.Clone(m.caches)
		m.caches[n.Core] = m.caches[n.Core].Twin()
		return m.caches[n.Core].Take(n)
	case api.Walk:
		word, e := m.monitor.Word(n.No)
		return []api.Note{{Kind: api.Walked, Core: n.Core, Data: api.Line{word}, No: n.No}}, e
	case api.Walked, api.Drop:
		m.checkers = slices.Clone(m.checkers)
		m.checkers[n.Core] = m.checkers[n.Core].Copy()
		return m.check(n)
	case api.Dropped:
		return nil, m.dropped(n)
	}
	m.home = m.home.Copy()
	return m.home.Take(n)
}

// check takes a note that goes to a checker.
func (m *Machine) check(n api.Note) ([]api.Note, api.Errno) {
	if n.Kind == api.Drop {
		_, e := m.checkers[n.Core].Drop(n.No)
		return []api.Note{{Kind: api.Dropped, Core: n.Core, No: n.No}}, e
	}
	next, over, e := m.checkers[n.Core].Walked(n.No, n.Data[0])
	if e != api.OK || over {
		return nil, e
	}
	return []api.Note{{Kind: api.Walk, Core: n.Core, No: next}}, api.OK
}

// dropped takes a core's word that it forgot a granule: behind the last one its lines are to be swept.
func (m *Machine) dropped(n api.Note) api.Errno {
	m.monitor = m.monitor.Copy()
	all, e := m.monitor.Dropped(n.No, n.Core)
	if e != api.OK || !all {
		return e
	}
	m.home = m.home.Copy()
	for line := range place.LinesOf(m.config, n.No) {
		if e := m.home.Sweep(line); e != api.OK {
			return e
		}
	}
	return api.OK
}

// begin lets the home begin with a line.
func (m *Machine) begin(d Do) api.Errno {
	begun := m.home.Copy()
	notes, e := begun.Begin(d.A, judge{config: m.config, monitor: m.monitor})
	if e != api.OK {
		return e
	}
	if e := m.fabric.Send(notes...); e != api.OK {
		return e
	}
	m.home = begun
	return api.OK
}

// finish ends the call of a granule whose lines are swept.
func (m *Machine) finish(d Do) api.Errno {
	if d.A < 0 || d.A >= m.config.Granules {
		return api.ErrRange
	}
	if !m.swept(d.A) {
		return api.ErrState
	}
	told, e := m.monitor.Swept(d.A)
	if e != api.OK {
		return e
	}
	if told.Scrub {
		if e := m.home.Scrub(d.A); e != api.OK {
			return e
		}
	}
	return m.retire(told.Core, 0, api.OK)
}
