package machine_test

import (
	"math"
	"reflect"
	"slices"
	"testing"

	"donjon/api"
	"donjon/atom"
	"donjon/isa"
	"donjon/machine"
	"donjon/note"
	"donjon/place"
	"donjon/table"
)

// config is one by texts of programs; the word n is 100 and n.
func config(t *testing.T, worlds, owners []int, texts ...string) machine.Config {
	t.Helper()
	c := machine.Config{Config: place.Config{Cores: len(worlds), Granules: len(owners), Sets: 1, Ways: 1, Depth: 2, Entries: 2, Banks: 1}, Worlds: worlds, Owners: owners}
	for _, s := range texts {
		p, line, e := isa.Parse(s)
		if e != api.OK {
			t.Fatal(line, e)
		}
		c.Programs = append(c.Programs, p)
	}
	for w := range 4 * len(owners) {
		c.Words = append(c.Words, 100+w)
	}
	return c
}

func made(t *testing.T, c machine.Config) *machine.Machine {
	t.Helper()
	m, e := machine.New(c)
	if m == nil || e != api.OK {
		t.Fatal(e)
	}
	return m
}

// simple is a machine of a depth of 2.
func simple(t *testing.T, worlds, owners []int, texts ...string) *machine.Machine {
	t.Helper()
	return made(t, config(t, worlds, owners, texts...))
}

func step(i int) machine.Do               { return machine.Do{What: machine.Step, A: i} }
func deliver(i, lane int) machine.Do      { return machine.Do{What: machine.Deliver, A: i, B: lane} }
func begin(line int) machine.Do           { return machine.Do{What: machine.Begin, A: line} }
func finish(granule int) machine.Do       { return machine.Do{What: machine.Finish, A: granule} }
func notes(m *machine.Machine) []api.Note { return m.Shot().Notes }

func do(t *testing.T, m *machine.Machine, l ...machine.Do) {
	t.Helper()
	if n, e := m.Do(l...); n != len(l) || e != api.OK {
		t.Fatal(n, e)
	}
}

// fails holds that something cannot be done, and that all is as it was.
func fails(t *testing.T, m *machine.Machine, d machine.Do, want api.Errno) {
	t.Helper()
	before, ready, logged := m.Shot(), m.Ready(), m.Len()
	n, e := m.Do(d)
	if n != 0 || e != want || m.Len() != logged || !slices.Equal(m.Ready(), ready) || !reflect.DeepEqual(m.Shot(), before) {
		t.Errorf("%+v: %d %v, not %v", d, n, e, want)
	}
}

// last is the event that came last.
func last(t *testing.T, m *machine.Machine, want atom.Event) {
	t.Helper()
	l := slices.Collect(m.Log())
	if len(l) == 0 || l[len(l)-1] != want || m.Len() != len(l) {
		t.Errorf("log %+v, at its end not %+v", l, want)
	}
}

// flows does all that is ready, but for steps and finishes, till nothing is on its way.
func flows(t *testing.T, m *machine.Machine) {
	t.Helper()
	for range 1000 {
		ready := slices.DeleteFunc(m.Ready(), func(d machine.Do) bool { return d.What == machine.Step || d.What == machine.Finish })
		if len(ready) == 0 {
			return
		}
		do(t, m, ready[0])
	}
	t.Fatal("does not end")
}

// until steps a core till its next event, letting all flow.
func until(t *testing.T, m *machine.Machine, i int) {
	t.Helper()
	for had := m.Len(); m.Len() == had; flows(t, m) {
		do(t, m, step(i))
	}
}

func sent(t *testing.T, m *machine.Machine, want ...api.Note) {
	t.Helper()
	if got := notes(m); !slices.Equal(got, want) {
		t.Errorf("on their way %+v, not %+v", got, want)
	}
}

func TestP16_1NewIsAsAtomNew(t *testing.T) {
	for i, turn := range []func(c *machine.Config){
		func(c *machine.Config) {},
		func(c *machine.Config) { c.Sets = 9; c.Worlds = nil },
		func(c *machine.Config) { c.Worlds = c.Worlds[1:] },
		func(c *machine.Config) { c.Programs = append(c.Programs, nil) },
		func(c *machine.Config) { c.Owners = nil },
		func(c *machine.Config) { c.Words = c.Words[1:] },
		func(c *machine.Config) { c.Programs[1] = make([]isa.Instr, 33); c.Worlds[0] = 7 },
		func(c *machine.Config) { c.Programs[0] = []isa.Instr{{Op: 44}} },
		func(c *machine.Config) { c.Worlds[1] = 4 },
		func(c *machine.Config) { c.Owners[0] = -1 },
	} {
		c := config(t, []int{0, 1}, []int{2}, "halt\n", "")
		turn(&c)
		_, want := atom.New(c.Config, c.Programs, c.Worlds, c.Owners, c.Words)
		if m, e := machine.New(c); e != want || (m != nil) != (e == api.OK) || (i > 0) == (e == api.OK) {
			t.Error(i, e, want)
		}
	}
}

func TestP16_1Beginning(t *testing.T) {
	c := config(t, []int{1, 0}, []int{4, 2}, "fence\n", "halt\n")
	m := made(t, c)
	c.Worlds[0], c.Owners[0], c.Words[0], c.Programs[0][0].Op = 3, 3, 3, isa.Halt // nothing of it is kept
	s := m.Shot()
	want := []api.Line{{100, 101}, {102, 103}, {104, 105}, {106, 107}}
	if len(s.Copies)+len(s.Known)+len(s.Notes)+m.Len() != 0 || !slices.Equal(s.Table, []table.Entry{{Owner: 4}, {Owner: 2}}) || !slices.Equal(s.Memory, want) {
		t.Errorf("%+v", s)
	}
	a, e := m.Core(0)
	b, f := m.Core(1)
	if a != (atom.Core{World: 1}) || b != (atom.Core{Over: true}) || e != api.OK || f != api.OK || m.Over() {
		t.Error(a, b, e, f)
	}
	if r := m.Ready(); !slices.Equal(r, []machine.Do{step(0)}) {
		t.Error(r)
	}
}

func TestP16_1Do(t *testing.T) {
	m := simple(t, []int{0}, []int{0}, "set 1 1\nset 2 2\nfence\n")
	if n, e := m.Do(); n != 0 || e != api.OK {
		t.Error(n, e)
	}
	if n, e := m.Do(step(0), step(0), step(1), step(0)); n != 2 || e != api.ErrRange || m.Len() != 2 {
		t.Error(n, e)
	}
	for _, what := range []int{-1, 4, math.MinInt, math.MaxInt} {
		if n, e := m.Do(machine.Do{What: what}, step(0)); n != 0 || e != api.ErrArg || m.Len() != 2 {
			t.Error(what, n, e)
		}
	}
	if n, e := m.Do(machine.Do{What: machine.Step, B: 77, C: -3}); n != 1 || e != api.OK {
		t.Error("numbers that are not used count for nothing:", n, e)
	}
	if machine.Step != 0 || machine.Deliver != 1 || machine.Begin != 2 || machine.Finish != 3 {
		t.Error("what may be done is numbered from 0 on")
	}
}

func TestP16_2StepErrorsAndLocal(t *testing.T) {
	m := simple(t, []int{0, 0}, []int{0, 0}, "set 1 7\ncall 1 0 1\nfence\n", "")
	for _, i := range []int{-1, 2, math.MinInt, math.MaxInt} {
		fails(t, m, step(i), api.ErrRange)
	}
	fails(t, m, step(1), api.ErrOver)
	do(t, m, step(0))
	last(t, m, atom.Event{Op: isa.Set, Value: 7})
	if c, _ := m.Core(0); c.Regs != [4]int{0, 7} || c.At != 1 {
		t.Error(c)
	}
	do(t, m, step(0)) // to 7: the monitor does not take it
	last(t, m, atom.Event{At: 1, Op: isa.Call, Value: 7, Code: api.ErrArg})
	if c, _ := m.Core(0); c.Regs != [4]int{1, 7} || m.Waits(0) {
		t.Error(c)
	}
	sent(t, m)
	do(t, m, step(0))
	fails(t, m, step(0), api.ErrOver)
}

func TestP16_2Call(t *testing.T) {
	m := simple(t, []int{0, 0}, []int{0, 0, 1}, "set 1 1\ncall 1 1 1\n", "set 1 1\ncall 1 1 1\nset 1 0\nset 2 3\ncall 1 1 2\n")
	do(t, m, step(0), step(0))
	sent(t, m, api.Note{Kind: api.Drop, Core: 0, No: 1}, api.Note{Kind: api.Drop, Core: 1, No: 1})
	if !m.Waits(0) || m.Waits(1) || m.Len() != 1 || m.Shot().Table[1] != (table.Entry{Locked: true}) {
		t.Error("the core waits")
	}
	fails(t, m, step(0), api.ErrState)
	do(t, m, step(1), step(1))
	last(t, m, atom.Event{Core: 1, At: 1, Op: isa.Call, Word: 1, Value: 1, Code: api.ErrBusy})
	do(t, m, step(1), step(1), step(1)) // of another granule
	if !m.Waits(1) || len(notes(m)) != 4 {
		t.Error(notes(m))
	}
}

func TestP16_2CallWithoutRoom(t *testing.T) {
	c := config(t, []int{0, 0}, []int{0, 0}, "set 1 1\ncall 1 0 1\n", "set 1 1\ncall 1 1 1\n")
	c.Depth = 1
	m := made(t, c)
	do(t, m, step(0), step(1), step(0))
	fails(t, m, step(1), api.ErrFull)
	do(t, m, deliver(1, note.Orders))
	fails(t, m, step(1), api.ErrFull)
	if m.Waits(1) || m.Shot().Table[1] != (table.Entry{}) {
		t.Error("all is as it was")
	}
	do(t, m, deliver(0, note.Orders), step(1))
	if !m.Waits(1) {
		t.Error("there is room")
	}
}

func TestP16_2MemoryOfNoWordAndDenied(t *testing.T) {
	m := simple(t, []int{1}, []int{1, 2}, "set 0 8\nload 1 0\nset 0 -1\nswap 1 0\nset 0 4\nstore 1 0\nload 1 0\n")
	do(t, m, step(0), step(0))
	last(t, m, atom.Event{At: 1, Op: isa.Load, World: 1, Word: 8, Code: api.ErrFault})
	do(t, m, step(0), step(0))
	last(t, m, atom.Event{At: 3, Op: isa.Swap, World: 1, Word: -1, Code: api.ErrFault})
	sent(t, m)
	do(t, m, step(0))
	until(t, m, 0)
	last(t, m, atom.Event{At: 5, Op: isa.Store, World: 1, Word: 4, Code: api.ErrFault})
	if k := m.Shot().Known; !slices.Equal(k, []machine.Known{{Core: 0, Granule: 1, Owner: 2}}) {
		t.Error(k)
	}
	do(t, m, step(0))
	last(t, m, atom.Event{At: 6, Op: isa.Load, World: 1, Word: 4, Code: api.ErrFault})
}

func TestP16_2And3AnAccessFromItsWalkToItsEvent(t *testing.T) {
	m := simple(t, []int{3}, []int{0, 0, 0, 0, 1, 4}, "set 0 21\nload 1 0\nset 2 5\nstore 2 0\nswap 1 0\n")
	do(t, m, step(0), step(0))
	sent(t, m, api.Note{Kind: api.Walk, No: 1})
	fails(t, m, step(0), api.ErrState) // its checker walks
	do(t, m, deliver(0, note.Asks))
	sent(t, m, api.Note{Kind: api.Walked, Data: api.Line{4*(2+4) + 1}, No: 1})
	do(t, m, deliver(0, note.Answers))
	sent(t, m, api.Note{Kind: api.Walk, No: 7})
	do(t, m, deliver(0, note.Asks))
	sent(t, m, api.Note{Kind: api.Walked, Data: api.Line{4}, No: 7})
	do(t, m, deliver(0, note.Answers))
	sent(t, m)
	if k := m.Shot().Known; !slices.Equal(k, []machine.Known{{Granule: 5, Owner: 4}}) {
		t.Error(k)
	}
	do(t, m, step(0))
	sent(t, m, api.Note{Kind: api.GetS, Line: 10, World: 3})
	fails(t, m, step(0), api.ErrBusy) // its cache asked
	do(t, m, deliver(0, note.Asks))
	if r := m.Ready(); !slices.Equal(r, []machine.Do{step(0), begin(10)}) || m.Over() {
		t.Error(r)
	}
	do(t, m, begin(10))
	sent(t, m, api.Note{Kind: api.Grant, Line: 10, World: 4, State: api.Exclusive, Data: api.Line{120, 121}})
	do(t, m, deliver(0, note.Answers))
	sent(t, m, api.Note{Kind: api.Done, Line: 10})
	do(t, m, deliver(0, note.Tells), step(0))
	last(t, m, atom.Event{At: 1, Op: isa.Load, World: 3, Word: 21, Value: 121})
	do(t, m, step(0), step(0))
	last(t, m, atom.Event{At: 3, Op: isa.Store, World: 3, Word: 21, Value: 5})
	if x := m.Shot().Copies; !slices.Equal(x, []machine.Copy{{Line: 10, State: api.Modified, World: 4, Data: api.Line{120, 5}}}) {
		t.Error(x)
	}
	do(t, m, step(0))
	last(t, m, atom.Event{At: 4, Op: isa.Swap, World: 3, Word: 21, Value: 5})
	if x := m.Shot(); x.Copies[0].Data != (api.Line{120, 121}) || x.Memory[10] != (api.Line{120, 121}) || !m.Over() {
		t.Error(x)
	}
}

func TestP16_2WantOfWriteAndOfAVictim(t *testing.T) {
	m := simple(t, []int{1}, []int{1}, "store 0 0\nset 0 2\nswap 1 0\n")
	until(t, m, 0)
	do(t, m, step(0), step(0)) // the granule is known, the one way is not free
	sent(t, m, api.Note{Kind: api.Put, Line: 0, World: 1, Data: api.Line{0, 101}, Dirty: true}, api.Note{Kind: api.GetM, Line: 1, World: 1})
	do(t, m, machine.Do{What: machine.Deliver, B: note.Asks, C: -1})
	sent(t, m, api.Note{Kind: api.Put, Line: 0, World: 1, Data: api.Line{0, 101}, Dirty: true})
	flows(t, m)
	if l := m.Shot().Memory[0]; l != (api.Line{0, 101}) {
		t.Error(l)
	}
	do(t, m, step(0))
	last(t, m, atom.Event{At: 2, Op: isa.Swap, World: 1, Word: 2, Value: 102})
}

func TestP16_2WithoutRoomForWhatGoesOut(t *testing.T) {
	c := config(t, []int{1}, []int{1, 1}, "load 0 1\nset 0 4\nload 1 0\n")
	c.Depth = 1
	m := made(t, c)
	until(t, m, 0)
	do(t, m, step(0), step(0))
	flows(t, m)                       // the walk of granule 1
	fails(t, m, step(0), api.ErrFull) // a Put and a GetS, of one lane
	if x := m.Shot().Copies; len(x) != 1 || x[0].Line != 0 {
		t.Error(x)
	}
	m = made(t, c)
	do(t, m, step(0))
	fails(t, m, step(0), api.ErrState)
}

func TestP16_3ProbesAndReplies(t *testing.T) {
	m := simple(t, []int{1, 1}, []int{1}, "set 1 9\nstore 1 0\n", "load 2 0\nstore 2 0\n")
	do(t, m, step(0))
	until(t, m, 0)
	do(t, m, step(1))
	flows(t, m) // the walk
	do(t, m, step(1), deliver(1, note.Asks), begin(0))
	sent(t, m, api.Note{Kind: api.Probe, Core: 0, State: api.Sharing})
	do(t, m, deliver(0, note.Orders))
	sent(t, m, api.Note{Kind: api.Reply, Core: 0, State: api.Owned, Data: api.Line{9, 101}, Dirty: true})
	do(t, m, deliver(0, note.Tells))
	sent(t, m, api.Note{Kind: api.Grant, Core: 1, World: 1, State: api.Sharing, Data: api.Line{9, 101}})
	flows(t, m)
	do(t, m, step(1))
	last(t, m, atom.Event{Core: 1, Op: isa.Load, World: 1, Value: 9})
	want := []machine.Copy{{Core: 0, State: api.Owned, World: 1, Data: api.Line{9, 101}}, {Core: 1, State: api.Sharing, World: 1, Data: api.Line{9, 101}}}
	if x := m.Shot(); !slices.Equal(x.Copies, want) || x.Memory[0] != (api.Line{100, 101}) {
		t.Error(x)
	}
	until(t, m, 1)
	if x := m.Shot(); len(x.Copies) != 1 || x.Copies[0].Core != 1 || x.Copies[0].State != api.Modified || x.Memory[0] != (api.Line{9, 101}) {
		t.Error(x)
	}
}

func TestP16_3AReplyWithoutRoomForItsGrant(t *testing.T) {
	c := config(t, []int{1, 1, 0}, []int{1}, "store 0 0\n", "load 2 0\n", "call 2 0 0\n")
	c.Depth = 1
	m := made(t, c)
	until(t, m, 0)
	do(t, m, step(1))
	flows(t, m) // the walk
	do(t, m, step(1), deliver(1, note.Asks), begin(0), deliver(0, note.Orders))
	do(t, m, step(2), deliver(1, note.Orders), step(1), deliver(1, note.Asks)) // core 1 forgets, and walks anew
	fails(t, m, deliver(0, note.Tells), api.ErrFull)
	do(t, m, deliver(1, note.Answers), deliver(0, note.Tells))
	if got := notes(m); !slices.Contains(got, api.Note{Kind: api.Grant, Core: 1, World: 1, State: api.Sharing, Data: api.Line{0, 101}}) {
		t.Error(got)
	}
}

func TestP16_3ADropWithoutRoomForItsDropped(t *testing.T) {
	c := config(t, []int{0, 1}, []int{1}, "call 2 0 0\n", "load 1 0\nload 2 0\n")
	c.Depth = 1
	m := made(t, c)
	do(t, m, step(1))
	flows(t, m)
	do(t, m, step(1), deliver(1, note.Asks), begin(0), deliver(1, note.Answers), step(0)) // the Done waits
	fails(t, m, deliver(1, note.Orders), api.ErrFull)
	do(t, m, step(1))
	last(t, m, atom.Event{Core: 1, Op: isa.Load, World: 1, Value: 100})
	do(t, m, deliver(1, note.Tells), deliver(1, note.Orders))
	if k := m.Shot().Known; len(k) != 0 {
		t.Error(k)
	}
}

func TestP16_3AWordWithoutRoomForTheNextWalk(t *testing.T) {
	c := config(t, []int{0, 1}, []int{1, 0}, "call 2 0 0\n", "load 1 0\n")
	c.Depth = 1
	m := made(t, c)
	do(t, m, step(1))
	flows(t, m)
	do(t, m, step(1)) // a GetS waits
	do(t, m, step(0), deliver(1, note.Orders))
	fails(t, m, step(1), api.ErrFull)
	do(t, m, deliver(1, note.Asks), step(1), deliver(1, note.Asks))
	do(t, m, deliver(1, note.Answers)) // the group is not plain
	got := slices.DeleteFunc(notes(m), func(n api.Note) bool { return n.Kind != api.Walk })
	if !slices.Equal(got, []api.Note{{Kind: api.Walk, Core: 1, No: 1}}) {
		t.Error(got)
	}
}

func TestP16_3DeliverErrors(t *testing.T) {
	m := simple(t, []int{1, 1}, []int{1}, "load 0 0\n", "")
	fails(t, m, deliver(0, note.Asks), api.ErrNone)
	do(t, m, step(0))
	fails(t, m, deliver(0, note.Tells), api.ErrNone)
	fails(t, m, deliver(1, note.Asks), api.ErrNone)
	for _, x := range [][2]int{{-1, 0}, {2, 0}, {0, -1}, {0, 4}, {math.MaxInt, 0}, {0, math.MinInt}} {
		fails(t, m, deliver(x[0], x[1]), api.ErrRange)
	}
}

func TestP16_4BeginErrorsAndNack(t *testing.T) {
	m := simple(t, []int{0, 1}, []int{1, 0}, "set 1 0\ncall 2 1 1\n", "load 1 0\n")
	for _, line := range []int{-1, 4, math.MinInt, math.MaxInt} {
		fails(t, m, begin(line), api.ErrRange)
	}
	fails(t, m, begin(0), api.ErrNone)
	do(t, m, step(1))
	flows(t, m)
	do(t, m, step(1), deliver(1, note.Asks), step(0), step(0)) // the granule is locked now
	do(t, m, begin(0))
	got := slices.DeleteFunc(notes(m), func(n api.Note) bool { return n.Kind == api.Drop })
	if !slices.Equal(got, []api.Note{{Kind: api.Nack, Core: 1}}) {
		t.Error(got)
	}
	do(t, m, deliver(1, note.Answers), step(1))
	if got := slices.DeleteFunc(notes(m), func(n api.Note) bool { return n.Kind == api.Drop }); !slices.Equal(got, []api.Note{{Kind: api.GetS, Core: 1, World: 1}}) {
		t.Error("it may ask anew:", got)
	}
}

func TestP16_3And4ACallFromItsDropToItsEvent(t *testing.T) {
	m := simple(t, []int{0, 0}, []int{0, 0}, "set 0 1\nset 1 3\ncall 1 0 1\nfence\n", "set 0 4\nset 1 77\nstore 1 0\n")
	do(t, m, step(1), step(1))
	until(t, m, 1)
	do(t, m, step(0), step(0), step(0))
	for _, granule := range []int{-1, 2, math.MinInt, math.MaxInt} {
		fails(t, m, finish(granule), api.ErrRange)
	}
	fails(t, m, finish(0), api.ErrState)
	fails(t, m, finish(1), api.ErrState) // it is Dropping
	do(t, m, deliver(1, note.Orders))
	sent(t, m, api.Note{Kind: api.Drop, Core: 0, No: 1}, api.Note{Kind: api.Dropped, Core: 1, No: 1})
	if k := m.Shot().Known; len(k) != 0 {
		t.Error(k)
	}
	do(t, m, deliver(1, note.Tells), deliver(0, note.Orders))
	fails(t, m, begin(2), api.ErrNone)
	do(t, m, deliver(0, note.Tells))
	if r := m.Ready(); !slices.Equal(r, []machine.Do{begin(2), begin(3)}) {
		t.Error("each line is to be swept:", r)
	}
	fails(t, m, finish(1), api.ErrState)
	do(t, m, begin(3), begin(2))
	sent(t, m, api.Note{Kind: api.Probe, Core: 1, Line: 2, State: api.Invalid})
	fails(t, m, finish(1), api.ErrState)
	do(t, m, deliver(1, note.Orders), deliver(1, note.Tells))
	if l := m.Shot().Memory[2]; l != (api.Line{77, 105}) {
		t.Error(l)
	}
	if r := m.Ready(); !slices.Equal(r, []machine.Do{finish(1)}) || m.Over() {
		t.Error(r)
	}
	fails(t, m, step(0), api.ErrState)
	do(t, m, finish(1))
	last(t, m, atom.Event{At: 2, Op: isa.Call, Word: 1, Value: 3})
	s := m.Shot()
	if m.Waits(0) || s.Table[1] != (table.Entry{Owner: 3}) || s.Memory[2] != (api.Line{}) || s.Memory[3] != (api.Line{}) || s.Memory[1] != (api.Line{102, 103}) || len(s.Copies) != 0 {
		t.Errorf("%+v", s)
	}
	fails(t, m, finish(1), api.ErrState)
	do(t, m, step(0))
}

func TestP16_4AShareIsNotScrubbed(t *testing.T) {
	m := simple(t, []int{2}, []int{2}, "call 4 0 0\n")
	do(t, m, step(0))
	flows(t, m)
	do(t, m, finish(0))
	last(t, m, atom.Event{Op: isa.Call, World: 2})
	if s := m.Shot(); s.Table[0] != (table.Entry{Owner: 4}) || s.Memory[0] != (api.Line{100, 101}) {
		t.Errorf("%+v", s)
	}
}

func TestP16_3AWalkThatIsStaleOrLockedGoesOn(t *testing.T) {
	m := simple(t, []int{0, 1}, []int{1}, "call 2 0 0\n", "load 1 0\n")
	do(t, m, step(1), deliver(1, note.Asks), step(0))
	do(t, m, deliver(1, note.Orders), deliver(1, note.Answers)) // forget, ahead of the word
	got := slices.DeleteFunc(notes(m), func(n api.Note) bool { return n.Kind != api.Walk })
	if !slices.Equal(got, []api.Note{{Kind: api.Walk, Core: 1}}) || len(m.Shot().Known) != 0 {
		t.Error(got)
	}
	do(t, m, deliver(1, note.Asks), deliver(1, note.Answers), deliver(1, note.Asks), deliver(1, note.Answers))
	got = slices.DeleteFunc(notes(m), func(n api.Note) bool { return n.Kind != api.Walk })
	if !slices.Equal(got, []api.Note{{Kind: api.Walk, Core: 1}}) || len(m.Shot().Known) != 0 {
		t.Error("the entry is locked:", got)
	}
}

func TestP16_5ReadyInItsOrder(t *testing.T) {
	m := simple(t, []int{0, 1, 1}, []int{1, 0, 1}, "set 1 2\ncall 2 1 1\n", "load 1 0\n", "set 0 2\nload 1 0\n")
	if r := m.Ready(); !slices.Equal(r, []machine.Do{step(0), step(1), step(2)}) {
		t.Error(r)
	}
	do(t, m, step(1), step(2), step(2))
	flows(t, m)
	do(t, m, step(1), step(2), deliver(1, note.Asks), deliver(2, note.Asks))
	do(t, m, step(0), step(0)) // of granule 2: it has no copies
	if r := m.Ready(); !slices.Equal(r, []machine.Do{step(1), step(2), deliver(0, 3), deliver(1, 3), deliver(2, 3), begin(0), begin(1)}) {
		t.Error(r)
	}
	for i := range 3 {
		do(t, m, deliver(i, note.Orders), deliver(i, note.Tells))
	}
	do(t, m, begin(4), begin(5))
	if r := m.Ready(); !slices.Equal(r, []machine.Do{step(1), step(2), begin(0), begin(1), finish(2)}) {
		t.Error(r)
	}
	do(t, m, begin(1))
	if r := m.Ready(); !slices.Equal(r, []machine.Do{step(1), step(2), deliver(2, 2), begin(0), finish(2)}) {
		t.Error(r)
	}
}

func TestP16_5LogIsAsItWas(t *testing.T) {
	m := simple(t, []int{0}, []int{0}, "set 1 1\nset 1 2\nset 1 3\n")
	do(t, m, step(0))
	log := m.Log()
	c := m.Copy()
	do(t, m, step(0), step(0))
	do(t, c, step(0))
	for range 2 {
		if l := slices.Collect(log); len(l) != 1 || l[0].Value != 1 {
			t.Error(l)
		}
	}
	for range m.Log() {
		break
	}
	if c.Len() != 2 || m.Len() != 3 {
		t.Error(c.Len(), m.Len())
	}
}

func TestP16_5WhatIsAnsweredIsTheCallers(t *testing.T) {
	m := simple(t, []int{0}, []int{0}, "load 1 0\n")
	do(t, m, step(0))
	s, r := m.Shot(), m.Ready()
	s.Memory[0][0], s.Table[0].Owner, s.Notes[0].Kind, r[0].What = 1, 1, 1, 9
	if x := m.Shot(); x.Memory[0][0] != 100 || x.Table[0].Owner != 0 || x.Notes[0].Kind != api.Walk || m.Ready()[0].What != machine.Step {
		t.Error(x)
	}
}

func TestP16_5OverAndRanges(t *testing.T) {
	m := simple(t, []int{1}, []int{1}, "load 1 0\nhalt\n")
	for _, i := range []int{-1, 1, math.MinInt, math.MaxInt} {
		if c, e := m.Core(i); c != (atom.Core{}) || e != api.ErrRange || m.Waits(i) {
			t.Error(i, c, e)
		}
	}
	do(t, m, step(0))
	flows(t, m)
	do(t, m, step(0), deliver(0, note.Asks), begin(0), deliver(0, note.Answers), step(0))
	if c, _ := m.Core(0); !c.Over || m.Over() {
		t.Error("a Done is on its way")
	}
	do(t, m, deliver(0, note.Tells))
	if !m.Over() || len(m.Ready()) != 0 {
		t.Error("all is over")
	}
}

func TestP16_5NotOverWhileSomethingIsToBeBegun(t *testing.T) {
	m := simple(t, []int{1}, []int{1}, "store 0 0\nset 0 2\nload 1 0\n")
	until(t, m, 0)
	do(t, m, step(0), step(0)) // a Put, and a GetS
	do(t, m, deliver(0, note.Asks), deliver(0, note.Asks), begin(1), deliver(0, note.Answers), deliver(0, note.Tells), step(0))
	if c, _ := m.Core(0); !c.Over || len(notes(m)) != 0 || m.Over() || !slices.Equal(m.Ready(), []machine.Do{begin(0)}) {
		t.Error("the Put is to be begun")
	}
	flows(t, m)
	if !m.Over() {
		t.Error("all is over")
	}
}

func TestP16_5Nil(t *testing.T) {
	var m *machine.Machine
	if n, e := m.Do(step(0)); n != 0 || e != api.ErrNil {
		t.Error(n, e)
	}
	if n, e := m.Do(); n != 0 || e != api.ErrNil {
		t.Error(n, e)
	}
	if c, e := m.Core(-1); c != (atom.Core{}) || e != api.ErrNil {
		t.Error(c, e)
	}
	s := m.Shot()
	if m.Len() != 0 || m.Waits(0) || m.Over() || len(m.Ready()) != 0 || m.Copy() != nil || len(slices.Collect(m.Log())) != 0 {
		t.Error("of a nil machine")
	}
	if len(s.Copies)+len(s.Known)+len(s.Table)+len(s.Notes)+len(s.Memory) != 0 {
		t.Error(s)
	}
}

func TestP16_Example(t *testing.T) {
	m := simple(t, []int{1}, []int{1}, "set 0 0\nload 1 0\n")
	do(t, m, step(0), step(0), deliver(0, note.Asks), deliver(0, note.Answers), step(0))
	sent(t, m, api.Note{Kind: api.GetS, World: 1})
	do(t, m, deliver(0, note.Asks), begin(0), deliver(0, note.Answers), step(0))
	last(t, m, atom.Event{At: 1, Op: isa.Load, World: 1, Value: 100})
}
