package whole

import (
	"math/rand"
	"slices"
	"testing"

	"donjon/api"
	"donjon/isa"
	"donjon/machine"
	"donjon/place"
)

// program is any program of so many instructions. Its registers often tell words and granules that there are.
func program(r *rand.Rand, many, granules int, straight bool) []isa.Instr {
	var p []isa.Instr
	reg := func() int { return r.Intn(isa.Regs) }
	for len(p) < many {
		target := r.Intn(many + 1)
		if straight {
			target = len(p) + 1 + r.Intn(many-len(p))
		}
		a, b := reg(), reg()
		switch k := r.Intn(20); {
		case k < 8:
			p = append(p, isa.Instr{Op: isa.Set, A: b, B: r.Intn(4 * granules)}, isa.Instr{Op: isa.Load + r.Intn(3), A: a, B: b})
		case k < 12:
			p = append(p, isa.Instr{Op: isa.Set, A: a, B: r.Intn(4)}, isa.Instr{Op: isa.Set, A: b, B: r.Intn(granules)}, isa.Instr{Op: isa.Call, A: 1 + r.Intn(4), B: b, C: a})
		case k < 13:
			p = append(p, isa.Instr{Op: isa.Set, A: a, B: r.Intn(4*granules+3) - 1})
		case k < 14:
			p = append(p, isa.Instr{Op: isa.Load + r.Intn(3), A: a, B: b})
		case k < 15:
			p = append(p, isa.Instr{Op: isa.Call, A: 1 + r.Intn(4), B: a, C: b})
		case k < 16:
			p = append(p, isa.Instr{Op: isa.Add, A: a, B: b, C: reg()})
		case k < 17:
			p = append(p, isa.Instr{Op: isa.World, A: 1 + r.Intn(3)})
		case k < 19:
			p = append(p, isa.Instr{Op: isa.Zero, A: a, B: target})
		default:
			p = append(p, []isa.Instr{{Op: isa.Fence}, {Op: isa.Jump, A: target}, {Op: isa.Halt}}[r.Intn(3)])
		}
	}
	return p[:many]
}

// sample is any configuration.
func sample(r *rand.Rand, straight bool) machine.Config {
	granules := 1 + r.Intn(3)
	if r.Intn(8) == 0 {
		granules = 16
	}
	c := machine.Config{Config: place.Config{Cores: 1 + r.Intn(4), Granules: granules, Sets: 1 + r.Intn(2), Ways: 1 + r.Intn(2), Depth: 1 + r.Intn(3), Entries: 1 + r.Intn(3), Banks: 1 + r.Intn(4)}}
	if straight {
		c.Depth++
	}
	for range c.Cores {
		c.Programs = append(c.Programs, program(r, 1+r.Intn(32), granules, straight))
		c.Worlds = append(c.Worlds, r.Intn(4))
	}
	for range granules {
		c.Owners = append(c.Owners, r.Intn(5))
	}
	for range 4 * granules {
		c.Words = append(c.Words, r.Intn(1000))
	}
	return c
}

// made is a machine that must be.
func made(t *testing.T, c machine.Config) *machine.Machine {
	t.Helper()
	m, e := machine.New(c)
	if m == nil || e != api.OK {
		t.Fatal(e)
	}
	return m
}

// pick is one of the things that are ready, with any place of its lane; now and then anything.
func pick(r *rand.Rand, m *machine.Machine) (machine.Do, bool) {
	if r.Intn(10) == 0 {
		return machine.Do{What: r.Intn(5) - r.Intn(2), A: r.Intn(6) - 1, B: r.Intn(6) - 1, C: r.Intn(4) - 2}, true
	}
	ready := m.Ready()
	if len(ready) == 0 {
		return machine.Do{}, false
	}
	d := ready[r.Intn(len(ready))]
	if d.What == machine.Deliver {
		d.C = r.Intn(9) - 4
	}
	return d, true
}

// state is all that a machine tells.
type state struct {
	shot  machine.Shot
	ready []machine.Do
	log   int
	over  bool
	cores []any
}

func stateOf(m *machine.Machine, cores int) state {
	s := state{shot: m.Shot(), ready: m.Ready(), log: m.Len(), over: m.Over()}
	for i := range cores {
		c, e := m.Core(i)
		s.cores = append(s.cores, c, e, m.Waits(i))
	}
	return s
}

func (s state) same(o state) bool {
	return slices.Equal(s.shot.Copies, o.shot.Copies) && slices.Equal(s.shot.Known, o.shot.Known) && slices.Equal(s.shot.Table, o.shot.Table) &&
		slices.Equal(s.shot.Notes, o.shot.Notes) && slices.Equal(s.shot.Memory, o.shot.Memory) && slices.Equal(s.ready, o.ready) &&
		s.log == o.log && s.over == o.over && slices.Equal(s.cores, o.cores)
}
