package home

import (
	"donjon/api"
	"donjon/moesi"
)

// none is the number of no core.
const none = -1

// sweep is the kind of a request that comes by no note.
const sweep = 0

// request is what waits in a line's row.
type request struct {
	kind  int
	core  int
	world int
	data  api.Line
	dirty bool
}

// service is the request that is served, and how far it came.
type service struct {
	request
	busy    bool
	told    int                // the owner that the judge told
	waits   [api.MaxCores]bool // whose Reply is waited for
	granted bool               // the core's Done is waited for
	found   bool               // a Reply told what memory does not have
	newest  api.Line           // that
}

// line is what is to be known of a line: while none is served, its service is empty.
type line struct {
	service
	owner   int
	sharers [api.MaxCores]bool
	row     []request
}

// has tells whether a core is a holder.
func (l *line) has(core int) bool { return l.owner == core || l.sharers[core] }

// first is the first holder from a core on, but one; none, if there is none.
func (l *line) first(from, but int) int {
	holder := none
look:
	for core := from; core < api.MaxCores; core++ {
		if core != but && l.has(core) {
			holder = core
			break look
		}
	}
	return holder
}

// holders is all holders but one, rising.
func (l *line) holders(but int) []int {
	var all []int
	for core := l.first(0, but); core != none; core = l.first(core+1, but) {
		all = append(all, core)
	}
	return all
}

// leave lets a core be no holder any more.
func (l *line) leave(core int) {
	if l.owner == core {
		l.owner = none
	}
	l.sharers[core] = false
}

// serve lets a request be served: these are probed.
func (l *line) serve(q request, no, told, to int, probed []int) []api.Note {
	l.service = service{request: q, busy: true, told: told}
	var notes []api.Note
	for _, core := range probed {
		l.waits[core] = true
		notes = append(notes, api.Note{Kind: api.Probe, Core: core, Line: no, State: to})
	}
	return notes
}

// waiting tells whether a Reply is waited for.
func (l *line) waiting() bool { return l.waits != [api.MaxCores]bool{} }

// shared takes what a probe to Sharing found.
func (l *line) shared(n api.Note) {
	if n.Dirty { // the owner keeps it, so that memory need not have it
		l.found, l.newest = true, n.Data
	}
	if n.State != api.Owned {
		l.owner = none
		l.sharers[n.Core] = moesi.Valid(n.State)
	}
}

// give lets the core that is served be a holder: the state that it is granted.
func (l *line) give() int {
	l.granted = true
	alone := l.first(0, l.core) == none
	if l.kind == api.GetS && !alone {
		l.sharers[l.core] = true
		return api.Sharing
	}
	l.owner, l.sharers = l.core, [api.MaxCores]bool{}
	if l.kind == api.GetS {
		return api.Exclusive
	}
	return api.Modified
}

// done takes the word that a grant came.
func (l *line) done(core int) api.Errno {
	if !l.granted || l.core != core {
		return api.ErrState
	}
	l.service = service{}
	return api.OK
}

// sweeps is how many sweeps wait, or are served.
func (l *line) sweeps() int {
	many := 0
	if l.busy && l.kind == sweep {
		many++
	}
	for _, q := range l.row {
		if q.kind == sweep {
			many++
		}
	}
	return many
}
