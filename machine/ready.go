package machine

import (
	"donjon/api"
	"donjon/monitor"
	"donjon/note"
	"donjon/place"
)

// Ready is what may perhaps be done.
func (m *Machine) Ready() []Do {
	if m == nil {
		return nil
	}
	var ready []Do
	for i, c := range m.cores {
		if !c.Over && !m.Waits(i) {
			ready = append(ready, Do{What: Step, A: i})
		}
	}
	for i := range m.cores {
		for lane := range note.Lanes {
			if m.fabric.Room(i, lane) < m.config.Depth {
				ready = append(ready, Do{What: Deliver, A: i, B: lane})
			}
		}
	}
	for line := range m.home.Ready() {
		ready = append(ready, Do{What: Begin, A: line})
	}
	for granule := range m.monitor.Running() {
		if m.swept(granule) {
			ready = append(ready, Do{What: Finish, A: granule})
		}
	}
	return ready
}

// swept tells whether the call of a granule is Sweeping, and all sweeps of its lines are over.
func (m *Machine) swept(granule int) bool {
	all := m.monitor.Phase(granule) == monitor.Sweeping
look:
	for line := range place.LinesOf(m.config, granule) {
		if m.home.Sweeps(line) > 0 {
			all = false
			break look
		}
	}
	return all
}

// Shot is all as it is.
func (m *Machine) Shot() Shot {
	var s Shot
	if m == nil {
		return s
	}
	for i := range m.cores {
		for line, x := range m.caches[i].All() {
			s.Copies = append(s.Copies, Copy{Core: i, Line: line, State: x.State, World: x.World, Data: x.Data})
		}
		for granule, owner := range m.checkers[i].All() {
			s.Known = append(s.Known, Known{Core: i, Granule: granule, Owner: owner})
		}
	}
	for granule := range m.config.Granules {
		if x, e := m.monitor.Get(granule); e == api.OK {
			s.Table = append(s.Table, x)
		}
	}
	for n := range m.fabric.All() {
		s.Notes = append(s.Notes, n)
	}
	for _, l := range m.home.All() {
		s.Memory = append(s.Memory, l)
	}
	return s
}
