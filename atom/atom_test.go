package atom_test

import (
	"math"
	"slices"
	"testing"

	"donjon/api"
	"donjon/atom"
	"donjon/isa"
	"donjon/place"
)

// program is the one that a text is.
func program(t *testing.T, s string) []isa.Instr {
	t.Helper()
	p, line, e := isa.Parse(s)
	if e != api.OK {
		t.Fatal(line, e)
	}
	return p
}

// parts is what a machine is made of.
type parts struct {
	c        place.Config
	programs [][]isa.Instr
	worlds   []int
	owners   []int
	words    []int
}

// setup is parts by texts of programs; the word n is 100 and n.
func setup(t *testing.T, worlds, owners []int, texts ...string) parts {
	t.Helper()
	p := parts{c: place.Config{Cores: len(worlds), Granules: len(owners), Sets: 1, Ways: 1, Depth: 1, Entries: 1, Banks: 1}, worlds: worlds, owners: owners}
	for _, s := range texts {
		p.programs = append(p.programs, program(t, s))
	}
	for w := range 4 * len(owners) {
		p.words = append(p.words, 100+w)
	}
	return p
}

func (p parts) new() (*atom.Machine, api.Errno) {
	return atom.New(p.c, p.programs, p.worlds, p.owners, p.words)
}

func machine(t *testing.T, worlds, owners []int, texts ...string) *atom.Machine {
	t.Helper()
	m, e := setup(t, worlds, owners, texts...).new()
	if m == nil || e != api.OK {
		t.Fatal(e)
	}
	return m
}

// steps lets a core do many steps: the last event.
func steps(t *testing.T, m *atom.Machine, core, many int) atom.Event {
	t.Helper()
	var x atom.Event
	for range many {
		var e api.Errno
		if x, e = m.Step(core, false); e != api.OK {
			t.Fatal(e)
		}
	}
	return x
}

func regs(t *testing.T, m *atom.Machine, core int) [isa.Regs]int {
	t.Helper()
	c, e := m.Core(core)
	if e != api.OK {
		t.Fatal(e)
	}
	return c.Regs
}

func word(t *testing.T, m *atom.Machine, w int) int {
	t.Helper()
	v, e := m.Get(w)
	if e != api.OK {
		t.Fatal(w, e)
	}
	return v
}

func TestP11_1Judge(t *testing.T) {
	numbers := []int{math.MinInt, -1, 0, 1, 2, 3, 4, 5, math.MaxInt}
	for _, call := range numbers {
		for _, world := range numbers {
			for _, owner := range numbers {
				for _, to := range numbers {
					then, scrub, e := judged(call, world, owner, to)
					if a, b, c := atom.Judge(call, world, owner, to); a != then || b != scrub || c != e {
						t.Error(call, world, owner, to, a, b, c)
					}
				}
			}
		}
	}
}

// judged is the chapter's table, cell by cell.
func judged(call, world, owner, to int) (int, bool, api.Errno) {
	type cell struct {
		is bool
		e  api.Errno
	}
	giving := to >= 1 && to <= 3
	rows := map[int][]cell{
		isa.Delegate: {{world != 0, api.ErrWorld}, {owner != 0, api.ErrState}, {!giving, api.ErrArg}},
		isa.Revoke:   {{owner == 0, api.ErrState}, {world != 0 && world != owner, api.ErrWorld}},
		isa.Transfer: {{world == 0 || world != owner, api.ErrWorld}, {!giving || to == owner, api.ErrArg}},
		isa.Share:    {{owner == 4, api.ErrState}, {world != owner, api.ErrWorld}},
	}
	if world < 0 || world > 3 || owner < 0 || owner > 4 {
		return 0, false, api.ErrRange
	}
	row, is := rows[call]
	if !is {
		return 0, false, api.ErrKind
	}
	for _, c := range row {
		if c.is {
			return 0, false, c.e
		}
	}
	then := map[int]int{isa.Delegate: to, isa.Revoke: 0, isa.Transfer: to, isa.Share: 4}[call]
	return then, call != isa.Share, api.OK
}

func TestP11_2NewErrors(t *testing.T) {
	good := setup(t, []int{0, 3}, []int{0, 4, 2}, "halt\n", "")
	for i, x := range []struct {
		turn func(p *parts)
		want api.Errno
	}{
		{func(p *parts) {}, api.OK},
		{func(p *parts) { p.c.Banks = 5; p.worlds = nil }, api.ErrRange},
		{func(p *parts) { p.programs = p.programs[:1]; p.worlds[0] = 9 }, api.ErrArg},
		{func(p *parts) { p.programs = append(p.programs, nil) }, api.ErrArg},
		{func(p *parts) { p.worlds = p.worlds[:1]; p.programs[0][0].Op = 0 }, api.ErrArg},
		{func(p *parts) { p.owners = append(p.owners, 1) }, api.ErrArg},
		{func(p *parts) { p.owners = p.owners[1:] }, api.ErrArg},
		{func(p *parts) { p.words = append(p.words, 1) }, api.ErrArg},
		{func(p *parts) { p.words = p.words[1:] }, api.ErrArg},
		{func(p *parts) { p.programs[0][0].Op = 12; p.programs[1] = []isa.Instr{{Op: 1, A: 9}}; p.owners[0] = 5 }, api.ErrKind},
		{func(p *parts) { p.programs[1] = []isa.Instr{{Op: 1, A: 9}}; p.worlds[0] = 4 }, api.ErrRange},
		{func(p *parts) { p.programs[1] = make([]isa.Instr, 33); p.worlds[0] = 4 }, api.ErrFull},
		{func(p *parts) { p.worlds[1] = 4 }, api.ErrRange},
		{func(p *parts) { p.worlds[1] = -1 }, api.ErrRange},
		{func(p *parts) { p.owners[2] = 5 }, api.ErrRange},
		{func(p *parts) { p.owners[2] = -1 }, api.ErrRange},
	} {
		p := good
		p.programs = [][]isa.Instr{slices.Clone(good.programs[0]), nil}
		p.worlds, p.owners, p.words = slices.Clone(good.worlds), slices.Clone(good.owners), slices.Clone(good.words)
		x.turn(&p)
		if m, e := p.new(); e != x.want || (m != nil) != (e == api.OK) {
			t.Error(i, e)
		}
	}
}

func TestP11_2Beginning(t *testing.T) {
	p := setup(t, []int{2, 0, 0}, []int{1, 4}, "set 1 5\n", "halt\n", "")
	m, _ := p.new()
	p.programs[0][0].B = 6 // what was handed in is not kept
	p.worlds[0], p.owners[0], p.words[0] = 1, 2, 7
	for i, want := range []atom.Core{{World: 2}, {Over: true}, {Over: true}} {
		if c, e := m.Core(i); c != want || e != api.OK {
			t.Error(i, c, e)
		}
	}
	if x, is := m.Next(0); x != (isa.Instr{Op: isa.Set, A: 1, B: 5}) || !is {
		t.Error(x, is)
	}
	for _, i := range []int{1, 2, -1, 3, math.MinInt, math.MaxInt} {
		if x, is := m.Next(i); x != (isa.Instr{}) || is {
			t.Error(i, x, is)
		}
	}
	for g, want := range []int{1, 4} {
		if o, e := m.Owner(g); o != want || e != api.OK {
			t.Error(g, o, e)
		}
	}
	for w := range 8 {
		if word(t, m, w) != 100+w {
			t.Error(w)
		}
	}
}

func TestP11_2Ranges(t *testing.T) {
	m := machine(t, []int{0, 1}, []int{1, 2}, "", "")
	for _, n := range []int{-1, 2, math.MinInt, math.MaxInt} {
		c, e := m.Core(n)
		o, f := m.Owner(n)
		x, g := m.Step(n, true)
		if c != (atom.Core{}) || o != 0 || x != (atom.Event{}) || e != api.ErrRange || f != api.ErrRange || g != api.ErrRange {
			t.Error(n, c, o, x, e, f, g)
		}
	}
	for _, w := range []int{-1, 8, math.MinInt, math.MaxInt} {
		if v, e := m.Get(w); v != 0 || e != api.ErrRange {
			t.Error(w, v, e)
		}
	}
}

func TestP11_2CopyAndNil(t *testing.T) {
	m := machine(t, []int{0}, []int{0, 1}, "set 1 3\nstore 1 0\ncall 1 0 1\n")
	c := m.Copy()
	steps(t, c, 0, 3)
	if regs(t, m, 0) != [4]int{} || word(t, m, 0) != 100 {
		t.Error("the copy is not of its own")
	}
	if o, _ := m.Owner(0); o != 0 {
		t.Error("nor its owners:", o)
	}
	steps(t, m, 0, 3)
	if a, _ := m.Core(0); a.At != 3 || regs(t, c, 0) != a.Regs || word(t, m, 0) != 0 {
		t.Error("not the same", a)
	}
	m = nil
	x, e := m.Step(-1, false)
	a, f := m.Core(-1)
	o, g := m.Owner(-1)
	v, h := m.Get(-1)
	if x != (atom.Event{}) || a != (atom.Core{}) || o != 0 || v != 0 || e != api.ErrNil || f != api.ErrNil || g != api.ErrNil || h != api.ErrNil {
		t.Error(x, a, o, v, e, f, g, h)
	}
	if n, is := m.Next(0); n != (isa.Instr{}) || is || m.Copy() != nil {
		t.Error("of a nil machine")
	}
}

func TestP11_3RegistersAndPlaces(t *testing.T) {
	m := machine(t, []int{0}, []int{0}, "set 1 -5\nset 2 9223372036854775807\nadd 3 1 2\nadd 2 2 2\nfence\nworld 2\nworld 3\nzero 0 8\nzero 1 0\njump 11\nset 0 1\nzero 1 0\njump 14\nhalt\n")
	for i, want := range []struct {
		e  atom.Event
		at int
	}{
		{atom.Event{At: 0, Op: isa.Set, Value: -5}, 1},
		{atom.Event{At: 1, Op: isa.Set, Value: math.MaxInt}, 2},
		{atom.Event{At: 2, Op: isa.Add, Value: math.MaxInt - 5}, 3},
		{atom.Event{At: 3, Op: isa.Add, Value: -2}, 4},
		{atom.Event{At: 4, Op: isa.Fence}, 5},
		{atom.Event{At: 5, Op: isa.World, Value: 2}, 6},
		{atom.Event{At: 6, Op: isa.World, World: 2, Value: 3, Code: api.ErrWorld}, 7},
		{atom.Event{At: 7, Op: isa.Zero, World: 2, Value: 0}, 8},
		{atom.Event{At: 8, Op: isa.Zero, World: 2, Value: -5}, 9},
		{atom.Event{At: 9, Op: isa.Jump, World: 2, Value: 11}, 11},
		{atom.Event{At: 11, Op: isa.Zero, World: 2, Value: -5}, 12},
		{atom.Event{At: 12, Op: isa.Jump, World: 2, Value: 14}, 14},
	} {
		e, f := m.Step(0, true) // busy counts for nothing here
		if c, _ := m.Core(0); e != want.e || f != api.OK || c.At != want.at {
			t.Error(i, e, f, c)
		}
	}
	if c, _ := m.Core(0); c != (atom.Core{Regs: [4]int{0, -5, -2, math.MaxInt - 5}, At: 14, World: 2, Over: true}) {
		t.Error(c)
	}
	if e, f := m.Step(0, false); e != (atom.Event{}) || f != api.ErrOver {
		t.Error(e, f)
	}
}

func TestP11_3Halt(t *testing.T) {
	m := machine(t, []int{0}, []int{0}, "jump 2\nset 0 1\nhalt\n")
	steps(t, m, 0, 1)
	if c, _ := m.Core(0); c != (atom.Core{At: 2, Over: true}) {
		t.Error(c)
	}
	if e, f := m.Step(0, false); e != (atom.Event{}) || f != api.ErrOver {
		t.Error(e, f)
	}
}

func TestP11_3Memory(t *testing.T) {
	m := machine(t, []int{1, 0}, []int{1, 0, 4, 2}, "set 0 2\nset 1 7\nstore 1 0\nload 2 0\nswap 0 0\nset 3 8\nswap 1 3\n", "set 0 13\nset 1 5\nswap 1 0\n")
	e := steps(t, m, 0, 3)
	if e != (atom.Event{At: 2, Op: isa.Store, World: 1, Word: 2, Value: 7}) || word(t, m, 2) != 7 {
		t.Error(e)
	}
	e = steps(t, m, 0, 1)
	if e != (atom.Event{At: 3, Op: isa.Load, World: 1, Word: 2, Value: 7}) || regs(t, m, 0)[2] != 7 {
		t.Error(e)
	}
	e = steps(t, m, 0, 1) // the register tells the word, and what is written
	if e != (atom.Event{At: 4, Op: isa.Swap, World: 1, Word: 2, Value: 7}) || regs(t, m, 0)[0] != 7 || word(t, m, 2) != 2 {
		t.Error(e, regs(t, m, 0), word(t, m, 2))
	}
	e = steps(t, m, 0, 2) // a shared one
	if e != (atom.Event{At: 6, Op: isa.Swap, World: 1, Word: 8, Value: 108}) || regs(t, m, 0)[1] != 108 || word(t, m, 8) != 7 {
		t.Error(e)
	}
	e = steps(t, m, 1, 3) // Root may have all
	if e != (atom.Event{Core: 1, At: 2, Op: isa.Swap, Word: 13, Value: 113}) || word(t, m, 13) != 5 || regs(t, m, 1)[1] != 113 {
		t.Error(e)
	}
}

func TestP11_3Faults(t *testing.T) {
	for _, w := range []int{4, 7, -1, 12, math.MaxInt, math.MinInt} { // Root's, and none
		for _, op := range []int{isa.Load, isa.Store, isa.Swap} {
			p := setup(t, []int{1}, []int{1, 0, 2}, "")
			p.programs[0] = []isa.Instr{{Op: isa.Set, A: 0, B: w}, {Op: isa.Set, A: 1, B: 9}, {Op: op, A: 1, B: 0}}
			m, _ := p.new()
			e := steps(t, m, 0, 3)
			if e != (atom.Event{At: 2, Op: op, World: 1, Word: w, Code: api.ErrFault}) || regs(t, m, 0) != [4]int{w, 9} {
				t.Error(w, op, e)
			}
			if c, _ := m.Core(0); c.At != 3 || !c.Over {
				t.Error(c)
			}
			for v := range 12 {
				if word(t, m, v) != 100+v {
					t.Error(w, op, "turned", v)
				}
			}
		}
	}
}

func TestP11_3Calls(t *testing.T) {
	for i, x := range []struct {
		world            int
		call, granule    int
		to               int
		busy             bool
		want             api.Errno
		owner            int
		scrubbed         bool
		granuleOfMachine int
	}{
		{0, isa.Delegate, 0, 3, false, api.OK, 3, true, 0},
		{0, isa.Delegate, 0, 3, true, api.ErrBusy, 0, false, 0},
		{0, isa.Delegate, 1, 3, false, api.ErrState, 1, false, 1},
		{0, isa.Delegate, 3, 3, true, api.ErrRange, 0, false, 0},
		{0, isa.Delegate, -1, 3, false, api.ErrRange, 0, false, 0},
		{0, isa.Delegate, math.MaxInt, 3, true, api.ErrRange, 0, false, 0},
		{1, isa.Revoke, 1, 9, false, api.OK, 0, true, 1},
		{2, isa.Revoke, 1, 9, false, api.ErrWorld, 1, false, 1},
		{1, isa.Transfer, 1, 2, false, api.OK, 2, true, 1},
		{1, isa.Transfer, 1, 1, false, api.ErrArg, 1, false, 1},
		{1, isa.Share, 1, -4, false, api.OK, 4, false, 1},
		{1, isa.Share, 2, 0, false, api.ErrState, 4, false, 2},
	} {
		p := setup(t, []int{x.world}, []int{0, 1, 4}, "")
		p.programs[0] = []isa.Instr{{Op: isa.Set, A: 1, B: x.granule}, {Op: isa.Set, A: 2, B: x.to}, {Op: isa.Call, A: x.call, B: 1, C: 2}}
		m, _ := p.new()
		steps(t, m, 0, 2)
		e, f := m.Step(0, x.busy)
		if e != (atom.Event{At: 2, Op: isa.Call, World: x.world, Word: x.granule, Value: x.to, Code: x.want}) || f != api.OK {
			t.Error(i, e, f)
		}
		if r := regs(t, m, 0); r != [4]int{0, int(x.want), x.to, 0} {
			t.Error(i, r)
		}
		if o, _ := m.Owner(x.granuleOfMachine); o != x.owner {
			t.Error(i, o)
		}
		for w := range 12 {
			want := 100 + w
			if x.scrubbed && w/4 == x.granuleOfMachine {
				want = 0
			}
			if word(t, m, w) != want {
				t.Error(i, w, word(t, m, w))
			}
		}
	}
}

func TestP11_3CallOfOneRegister(t *testing.T) {
	m := machine(t, []int{0}, []int{0, 0}, "set 1 1\ncall 1 1 1\nset 2 1\ncall 2 2 2\nset 3 9\ncall 1 3 3\n")
	if e := steps(t, m, 0, 2); e != (atom.Event{At: 1, Op: isa.Call, Word: 1, Value: 1}) || regs(t, m, 0)[1] != 0 {
		t.Error(e, regs(t, m, 0))
	}
	if e := steps(t, m, 0, 2); e != (atom.Event{At: 3, Op: isa.Call, Word: 1, Value: 1}) {
		t.Error(e)
	}
	if e := steps(t, m, 0, 2); e != (atom.Event{At: 5, Op: isa.Call, Word: 9, Value: 9, Code: api.ErrRange}) || regs(t, m, 0)[3] != 10 {
		t.Error(e, regs(t, m, 0))
	}
}

func TestP11_Example(t *testing.T) {
	m := machine(t, []int{1}, []int{1, 0}, "set 0 2\nset 1 7\nstore 1 0\nload 2 0\nset 0 4\nload 2 0\n")
	if e := steps(t, m, 0, 4); e.Value != 7 {
		t.Error(e)
	}
	if e := steps(t, m, 0, 2); e.Code != api.ErrFault {
		t.Error(e)
	}
}
