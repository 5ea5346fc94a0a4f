package replay_test

import (
	"math"
	"reflect"
	"slices"
	"testing"

	"donjon/api"
	"donjon/atom"
	"donjon/isa"
	"donjon/machine"
	"donjon/place"
	"donjon/replay"
)

// config is two cores, of Root and of the world 1, over two granules; the word n is 100 and n.
func config(t *testing.T, first, second string) machine.Config {
	t.Helper()
	c := machine.Config{Config: place.Config{Cores: 2, Granules: 2, Sets: 1, Ways: 1, Depth: 2, Entries: 2, Banks: 1}, Worlds: []int{0, 1}, Owners: []int{1, 0}}
	for _, s := range []string{first, second} {
		p, line, e := isa.Parse(s)
		if e != api.OK {
			t.Fatal(line, e)
		}
		c.Programs = append(c.Programs, p)
	}
	for w := range 8 {
		c.Words = append(c.Words, 100+w)
	}
	return c
}

func sample(t *testing.T) machine.Config {
	t.Helper()
	return config(t, "set 1 1\nset 2 2\ncall 1 1 2\n", "set 0 9\nstore 0 1\nload 2 1\nload 3 0\n")
}

// over is the machine of a configuration, when all is over, and its log.
func over(t *testing.T, c machine.Config) (*machine.Machine, []atom.Event) {
	t.Helper()
	m, e := machine.New(c)
	if e != api.OK {
		t.Fatal(e)
	}
	for range 1000 {
		for _, d := range m.Ready() {
			m.Do(d)
		}
	}
	if !m.Over() {
		t.Fatal("is not over")
	}
	return m, slices.Collect(m.Log())
}

// told is what the atomic machine is behind the first events.
func told(t *testing.T, c machine.Config, l []atom.Event) replay.Told {
	t.Helper()
	m, e := atom.New(c.Config, c.Programs, c.Worlds, c.Owners, c.Words)
	if e != api.OK {
		t.Fatal(e)
	}
	for _, x := range l {
		if did, e := m.Step(x.Core, x.Code == api.ErrBusy); did != x || e != api.OK {
			t.Fatal(did, x, e)
		}
	}
	out := replay.Told{Events: len(l)}
	for i := range c.Cores {
		x, _ := m.Core(i)
		out.Cores = append(out.Cores, x)
	}
	for g := range c.Granules {
		o, _ := m.Owner(g)
		out.Owners = append(out.Owners, o)
	}
	for w := range c.Words {
		v, _ := m.Get(w)
		out.Words = append(out.Words, v)
	}
	return out
}

// run holds what Run and First tell of a log, of which so many events fit.
func run(t *testing.T, c machine.Config, l []atom.Event, fit int, want api.Errno) {
	t.Helper()
	got, e := replay.Run(c, l...)
	if e != want || !reflect.DeepEqual(got, told(t, c, l[:fit])) {
		t.Errorf("%+v %v, not %v", got, e, want)
	}
	at, is := replay.First(c, l...)
	if want == api.OK {
		fit = 0
	}
	if at != fit || is != (want != api.OK) {
		t.Error(at, is)
	}
}

func TestP18_1RunOfALog(t *testing.T) {
	c := sample(t)
	_, l := over(t, c)
	if len(l) != 7 {
		t.Fatal(l)
	}
	for many := range len(l) + 1 {
		run(t, c, l[:many], many, api.OK)
	}
	got, _ := replay.Run(c, l...)
	if got.Owners[1] != 2 || got.Words[4] != 0 || got.Words[0] != 9 || got.Cores[1].Regs != [4]int{9, 0, 9, 0} {
		t.Errorf("%+v", got)
	}
}

func TestP18_1RunOfEventsThatDoNotFit(t *testing.T) {
	c := sample(t)
	_, l := over(t, c)
	for at := range l {
		for i, turn := range []func(x *atom.Event){
			func(x *atom.Event) { x.Value++ },
			func(x *atom.Event) { x.Word-- },
			func(x *atom.Event) { x.At++ },
			func(x *atom.Event) { x.Op++ },
			func(x *atom.Event) { x.World ^= 1 },
			func(x *atom.Event) { x.Code = api.ErrBusy },
			func(x *atom.Event) { x.Code = 99 },
			func(x *atom.Event) { x.Core = 2 },
			func(x *atom.Event) { x.Core = -1 },
			func(x *atom.Event) { x.Core = math.MinInt },
		} {
			bad := slices.Clone(l)
			turn(&bad[at])
			if i == 5 && bad[at].Op == isa.Call { // told to be busy, it is
				continue
			}
			run(t, c, bad, at, api.ErrState)
		}
	}
}

func TestP18_1RunBeyondTheEnd(t *testing.T) {
	c := sample(t)
	_, l := over(t, c)
	l = append(l, atom.Event{Core: 1, At: 4}, atom.Event{Core: 9})
	run(t, c, l, 7, api.ErrOver)
	run(t, config(t, "halt\n", ""), []atom.Event{{}}, 0, api.ErrOver)
	run(t, config(t, "halt\n", ""), nil, 0, api.OK)
}

func TestP18_1BusyCalls(t *testing.T) {
	c := config(t, "call 1 1 1\n", "call 2 0 0\n")
	busy := atom.Event{Core: 1, Op: isa.Call, World: 1, Code: api.ErrBusy}
	run(t, c, []atom.Event{busy}, 1, api.OK)
	run(t, c, []atom.Event{busy, {Op: isa.Call, Code: api.ErrBusy}, {}}, 2, api.ErrOver)
}

func TestP18_1OfNoMachine(t *testing.T) {
	c := sample(t)
	_, l := over(t, c)
	for want, turn := range map[api.Errno]func(c *machine.Config){
		api.ErrRange: func(c *machine.Config) { c.Depth = 0 },
		api.ErrArg:   func(c *machine.Config) { c.Words = nil },
		api.ErrKind:  func(c *machine.Config) { c.Programs = [][]isa.Instr{{{Op: 99}}, nil} },
		api.ErrFull:  func(c *machine.Config) { c.Programs = [][]isa.Instr{make([]isa.Instr, 33), nil} },
	} {
		bad := c
		turn(&bad)
		got, e := replay.Run(bad, l...)
		at, is := replay.First(bad, l...)
		m, _ := machine.New(c)
		if e != want || !reflect.DeepEqual(got, replay.Told{}) || at != 0 || is || replay.Holds(bad, m) {
			t.Error(got, e, at, is)
		}
	}
}

func TestP18_2Holds(t *testing.T) {
	c := sample(t)
	m, _ := machine.New(c)
	if !replay.Holds(c, m) || replay.Holds(c, nil) {
		t.Error("at the beginning")
	}
	for range 200 {
		for _, d := range m.Ready() {
			m.Do(d)
			if !replay.Holds(c, m) {
				t.Fatal(d)
			}
		}
	}
	other := sample(t)
	other.Programs[1][0].B = 8
	if replay.Holds(other, m) {
		t.Error("another program's log")
	}
	other = sample(t)
	other.Words[2] = 9
	if !replay.Holds(other, m) {
		t.Error("a word that no one is told counts for nothing")
	}
	other.Worlds = []int{0, 2}
	if replay.Holds(other, m) {
		t.Error("another world")
	}
}

func TestP18_2HoldsLooksAtTheCores(t *testing.T) {
	m, _ := machine.New(config(t, "", "fence\n"))
	if replay.Holds(config(t, "", ""), m) {
		t.Error("the log, which is empty, fits; the core is over, and the machine's is not")
	}
}

func TestP18_2HoldsLooksAtTheLog(t *testing.T) {
	c := config(t, "", "store 0 1\njump 0\n")
	m, _ := machine.New(c)
	for m.Len() < 2 {
		for _, d := range m.Ready() {
			if m.Len() < 2 {
				m.Do(d)
			}
		}
	}
	other := c
	other.Owners = []int{2, 0} // a fault: the core is the same then
	if !replay.Holds(c, m) || replay.Holds(other, m) {
		t.Error("the core is where it was, but the log does not fit")
	}
}

func TestP18_2Word(t *testing.T) {
	s := machine.Shot{
		Memory: []api.Line{{1, 2}, {3, 4}},
		Copies: []machine.Copy{{Core: 1, Line: 1, State: api.Invalid, Data: api.Line{5, 6}}, {Core: 2, Line: 1, State: api.Modified, Data: api.Line{7, 8}}, {Line: 2, Data: api.Line{9, 9}}, {Line: -1}},
	}
	for word, want := range []int{1, 2, 5, 6} {
		if v, is := replay.Word(s, word); v != want || !is {
			t.Error(word, v, is)
		}
	}
	for _, word := range []int{-1, -2, 4, 5, math.MinInt, math.MaxInt} {
		if v, is := replay.Word(s, word); v != 0 || is {
			t.Error(word, v, is)
		}
	}
}

func TestP18_Example(t *testing.T) {
	c := config(t, "", "load 1 0\nload 2 0\n")
	_, l := over(t, c)
	run(t, c, l, 2, api.OK)
	l[1].Value++
	run(t, c, l, 1, api.ErrState)
}
