package core_test

import (
	"math"
	"math/rand"
	"slices"
	"testing"

	"donjon/api"
	"donjon/atom"
	"donjon/core"
	"donjon/isa"
	"donjon/monitor"
	"donjon/place"
)

func program(t *testing.T, s string) []isa.Instr {
	t.Helper()
	p, line, e := isa.Parse(s)
	if e != api.OK {
		t.Fatal(line, e)
	}
	return p
}

// made is the core 2 of a world.
func made(t *testing.T, world int, s string) *core.Core {
	t.Helper()
	c, e := core.New(2, world, program(t, s)...)
	if c == nil || e != api.OK {
		t.Fatal(e)
	}
	return c
}

func retire(t *testing.T, c *core.Core, value int, code api.Errno, want atom.Event) {
	t.Helper()
	if x, e := c.Retire(value, code); x != want || e != api.OK {
		t.Errorf("%+v %v, not %+v", x, e, want)
	}
}

func TestP15_1New(t *testing.T) {
	bad := isa.Instr{Op: 99}
	for i, x := range []struct {
		no, world int
		p         []isa.Instr
		want      api.Errno
	}{
		{-1, 0, []isa.Instr{bad}, api.ErrRange}, {4, 0, []isa.Instr{bad}, api.ErrRange}, {0, -1, []isa.Instr{bad}, api.ErrRange}, {0, 4, nil, api.ErrRange},
		{math.MaxInt, 0, nil, api.ErrRange}, {0, math.MinInt, nil, api.ErrRange},
		{3, 3, []isa.Instr{bad}, api.ErrKind}, {0, 0, make([]isa.Instr, 33), api.ErrFull}, {0, 0, []isa.Instr{{Op: isa.Jump, A: 2}}, api.ErrRange},
		{0, 3, nil, api.OK}, {3, 0, []isa.Instr{{Op: isa.Halt}}, api.OK},
	} {
		if c, e := core.New(x.no, x.world, x.p...); e != x.want || (c != nil) != (e == api.OK) {
			t.Error(i, e)
		}
	}
	p := program(t, "set 1 2\n")
	c, _ := core.New(0, 1, p...)
	p[0].B = 9
	if c.Core != (atom.Core{World: 1}) {
		t.Error(c.Core)
	}
	if e, _ := c.Local(); e.Value != 2 {
		t.Error("what was handed in is not kept:", e)
	}
	for _, s := range []string{"", "halt\n"} {
		if c := made(t, 0, s); !c.Over || c.At != 0 {
			t.Error(s, c.Core)
		}
	}
}

func TestP15_1LocalAndNext(t *testing.T) {
	c := made(t, 0, "set 1 -3\nadd 2 1 1\nfence\nworld 3\nworld 1\nzero 0 7\nhalt\nzero 1 0\njump 10\nhalt\nhalt\n")
	for i, want := range []struct {
		e  atom.Event
		at int
	}{
		{atom.Event{At: 0, Op: isa.Set, Value: -3}, 1},
		{atom.Event{At: 1, Op: isa.Add, Value: -6}, 2},
		{atom.Event{At: 2, Op: isa.Fence}, 3},
		{atom.Event{At: 3, Op: isa.World, Value: 3}, 4},
		{atom.Event{At: 4, Op: isa.World, World: 3, Value: 1, Code: api.ErrWorld}, 5},
		{atom.Event{At: 5, Op: isa.Zero, World: 3}, 7},
		{atom.Event{At: 7, Op: isa.Zero, World: 3, Value: -3}, 8},
		{atom.Event{At: 8, Op: isa.Jump, World: 3, Value: 10}, 10},
	} {
		want.e.Core = 2
		x, is := c.Next()
		e, done := c.Local()
		if !is || x.Op != want.e.Op || e != want.e || !done || c.At != want.at {
			t.Error(i, x, is, e, done, c.At)
		}
	}
	if c.Core != (atom.Core{Regs: [4]int{0, -3, -6}, At: 10, World: 3, Over: true}) {
		t.Error(c.Core)
	}
	if x, is := c.Next(); x != (isa.Instr{}) || is {
		t.Error(x, is)
	}
	if e, is := c.Local(); e != (atom.Event{}) || is {
		t.Error(e, is)
	}
}

func TestP15_1LocalOfWhatAsksSomeone(t *testing.T) {
	for _, s := range []string{"load 0 1\n", "store 0 1\n", "swap 0 1\n", "call 1 0 0\n", "halt\n", ""} {
		c := made(t, 0, s)
		was := c.Core
		if e, is := c.Local(); e != (atom.Event{}) || is || c.Core != was {
			t.Error(s, e, is)
		}
		if l := c.Run(5); len(l) != 0 || c.Core != was {
			t.Error(s, l)
		}
	}
}

func TestP15_1Run(t *testing.T) {
	loop := "set 0 1\nset 1 2\njump 1\n"
	for most, want := range map[int]int{0: 0, -1: 0, math.MinInt: 0, 1: 1, 5: 5, 100: 100} {
		c, d := made(t, 0, loop), made(t, 0, loop)
		events := c.Run(most)
		if len(events) != want {
			t.Error(most, len(events))
		}
		for i, e := range events {
			if f, _ := d.Local(); f != e {
				t.Error(most, i, e, f)
			}
		}
		if c.Core != d.Core {
			t.Error(most, c.Core)
		}
	}
	c := made(t, 0, "set 0 1\nfence\nload 0 0\nfence\n")
	if l := c.Run(math.MaxInt); len(l) != 2 || c.At != 2 {
		t.Error(l)
	}
}

func TestP15_2Access(t *testing.T) {
	for s, want := range map[string]core.Access{
		"load 1 0\n":  {Word: -5, Read: true},
		"store 1 0\n": {Word: -5, Write: true, Value: 7},
		"swap 1 0\n":  {Word: -5, Write: true, Read: true, Value: 7},
	} {
		c := made(t, 1, "set 0 -5\nset 1 7\n"+s)
		if a, is := c.Access(); a != (core.Access{}) || is {
			t.Error(s, a, is)
		}
		c.Run(2)
		for range 2 {
			if a, is := c.Access(); a != want || !is || c.At != 2 {
				t.Error(s, a, is)
			}
		}
		if a, is := c.Ask(); a != (monitor.Ask{}) || is {
			t.Error(s, a, is)
		}
	}
}

func TestP15_2Ask(t *testing.T) {
	c := made(t, 3, "set 1 9\nset 2 -8\ncall 4 1 2\nhalt\n")
	if a, is := c.Ask(); a != (monitor.Ask{}) || is {
		t.Error(a, is)
	}
	c.Run(2)
	for range 2 {
		if a, is := c.Ask(); a != (monitor.Ask{Core: 2, World: 3, Call: isa.Share, Granule: 9, To: -8}) || !is || c.At != 2 {
			t.Error(a, is)
		}
	}
	if a, is := c.Access(); a != (core.Access{}) || is {
		t.Error(a, is)
	}
	c.Retire(0, api.OK)
	if a, is := c.Ask(); a != (monitor.Ask{}) || is {
		t.Error("it is over:", a, is)
	}
}

func TestP15_3RetireOfMemory(t *testing.T) {
	for s, x := range map[string]struct {
		op, value, reg int
	}{"load 1 0\n": {isa.Load, 66, 66}, "store 1 0\n": {isa.Store, 7, 7}, "swap 1 0\n": {isa.Swap, 66, 66}} {
		c := made(t, 1, "set 0 5\nset 1 7\n"+s)
		c.Run(2)
		retire(t, c, 66, api.OK, atom.Event{Core: 2, At: 2, Op: x.op, World: 1, Word: 5, Value: x.value})
		if c.Core != (atom.Core{Regs: [4]int{5, x.reg}, At: 3, World: 1, Over: true}) {
			t.Error(s, c.Core)
		}
		c = made(t, 1, "set 0 5\nset 1 7\n"+s+"fence\n")
		c.Run(2)
		retire(t, c, 66, api.ErrFault, atom.Event{Core: 2, At: 2, Op: x.op, World: 1, Word: 5, Code: api.ErrFault})
		if c.Core != (atom.Core{Regs: [4]int{5, 7}, At: 3, World: 1}) {
			t.Error(s, c.Core)
		}
	}
	c := made(t, 0, "set 0 5\nswap 0 0\n")
	c.Run(1)
	retire(t, c, -1, api.OK, atom.Event{Core: 2, At: 1, Op: isa.Swap, Word: 5, Value: -1})
}

func TestP15_3RetireOfACall(t *testing.T) {
	for _, code := range []api.Errno{api.OK, api.ErrFault, api.ErrBusy, 777, -1} {
		c := made(t, 1, "set 0 5\nset 1 7\ncall 3 0 1\n")
		c.Run(2)
		retire(t, c, 66, code, atom.Event{Core: 2, At: 2, Op: isa.Call, World: 1, Word: 5, Value: 7, Code: code})
		if c.Core != (atom.Core{Regs: [4]int{int(code), 7}, At: 3, World: 1, Over: true}) {
			t.Error(code, c.Core)
		}
	}
	c := made(t, 0, "set 0 5\ncall 3 0 0\n")
	c.Run(1)
	retire(t, c, 0, 9, atom.Event{Core: 2, At: 1, Op: isa.Call, Word: 5, Value: 5, Code: 9})
}

func TestP15_3RetireErrors(t *testing.T) {
	for _, s := range []string{"set 0 1\n", "fence\n", "jump 0\n", "halt\n", ""} {
		c := made(t, 0, s)
		was := c.Core
		for _, code := range []api.Errno{api.OK, api.ErrFault, api.ErrArg} {
			if x, e := c.Retire(1, code); x != (atom.Event{}) || e != api.ErrState || c.Core != was {
				t.Error(s, x, e)
			}
		}
	}
	for _, s := range []string{"load 1 0\n", "store 1 0\n", "swap 1 0\n"} {
		c := made(t, 0, s)
		for _, code := range []api.Errno{api.ErrArg, api.ErrBusy, -1, 99} {
			if x, e := c.Retire(1, code); x != (atom.Event{}) || e != api.ErrArg || c.Core != (atom.Core{}) {
				t.Error(s, code, x, e)
			}
		}
	}
}

func TestP15_3TwinAndNil(t *testing.T) {
	c := made(t, 0, "set 0 1\nset 1 2\nload 2 1\n")
	c.Local()
	d := c.Twin()
	d.Run(9)
	d.Retire(5, api.OK)
	if c.Core != (atom.Core{Regs: [4]int{1}, At: 1}) {
		t.Error("the twin is not of its own:", c.Core)
	}
	c.Run(9)
	retire(t, c, 5, api.OK, atom.Event{Core: 2, At: 2, Op: isa.Load, Word: 2, Value: 5})
	if c.Core != d.Core {
		t.Error("not the same")
	}
	c = nil
	x, is := c.Next()
	e, local := c.Local()
	a, access := c.Access()
	k, ask := c.Ask()
	r, f := c.Retire(0, 99)
	if x != (isa.Instr{}) || e != (atom.Event{}) || a != (core.Access{}) || k != (monitor.Ask{}) || r != (atom.Event{}) || is || local || access || ask || f != api.ErrNil {
		t.Error("of a nil core", f)
	}
	if len(c.Run(3)) != 0 || c.Twin() != nil {
		t.Error("of a nil core")
	}
}

func TestP15_Example(t *testing.T) {
	c := made(t, 0, "set 0 5\nload 1 0\n")
	if e, is := c.Local(); e.Value != 5 || !is {
		t.Error(e, is)
	}
	if a, is := c.Access(); a != (core.Access{Word: 5, Read: true}) || !is {
		t.Error(a, is)
	}
	if _, e := c.Retire(9, api.OK); e != api.OK || c.Regs[1] != 9 {
		t.Error(c.Regs)
	}
}

// anything is a program of any instructions.
func anything(r *rand.Rand) []isa.Instr {
	p := make([]isa.Instr, r.Intn(33))
	for i := range p {
		for {
			p[i] = isa.Instr{Op: 1 + r.Intn(isa.Halt), A: r.Intn(5), B: r.Intn(5), C: r.Intn(5)}
			if r.Intn(2) == 0 {
				p[i].C = 0
			}
			if r.Intn(3) == 0 {
				p[i].B, p[i].C = 0, 0
			}
			if r.Intn(4) == 0 {
				p[i].A, p[i].B, p[i].C = 0, 0, 0
			}
			if isa.May(p[i], len(p)) == api.OK {
				break
			}
		}
	}
	return p
}

// TestP15_4AsTheAtomicMachine tells a core what the atomic machine told its core.
func TestP15_4AsTheAtomicMachine(t *testing.T) {
	for seed := range int64(400) {
		r := rand.New(rand.NewSource(seed))
		p, world, owners := anything(r), r.Intn(4), []int{r.Intn(5), r.Intn(5)}
		m, e := atom.New(place.Config{Cores: 1, Granules: 2, Sets: 1, Ways: 1, Depth: 1, Entries: 1, Banks: 1}, [][]isa.Instr{p}, []int{world}, owners, []int{1, 2, 3, 4, 5, 6, 7, 0})
		c, f := core.New(0, world, p...)
		if e != api.OK || f != api.OK {
			t.Fatal(e, f)
		}
		for range 200 {
			x, is := c.Next()
			y, also := m.Next(0)
			if x != y || is != also {
				t.Fatal(seed, x, y)
			}
			want, e := m.Step(0, r.Intn(9) == 0)
			if e != api.OK {
				break
			}
			got, local := c.Local()
			if !local {
				got, e = c.Retire(want.Value, want.Code)
			}
			if are, _ := m.Core(0); got != want || e != api.OK || c.Core != are {
				t.Fatal(seed, got, want, e, c.Core, are)
			}
		}
	}
}

func TestP15_4RunIsTheEventsOfTheAtomicMachine(t *testing.T) {
	p := program(t, "set 1 4\nadd 1 1 1\nzero 0 4\nhalt\nworld 2\nfence\n")
	m, _ := atom.New(place.Config{Cores: 1, Granules: 1, Sets: 1, Ways: 1, Depth: 1, Entries: 1, Banks: 1}, [][]isa.Instr{p}, []int{0}, []int{0}, make([]int, 4))
	var want []atom.Event
	for {
		e, f := m.Step(0, false)
		if f != api.OK {
			break
		}
		want = append(want, e)
	}
	c, _ := core.New(0, 0, p...)
	if got := c.Run(100); !slices.Equal(got, want) {
		t.Error(got, want)
	}
}
