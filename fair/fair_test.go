package fair_test

import (
	"math"
	"slices"
	"testing"

	"donjon/api"
	"donjon/fair"
	"donjon/isa"
	"donjon/machine"
	"donjon/note"
	"donjon/place"
)

func config(t *testing.T, depth int, worlds []int, texts ...string) machine.Config {
	t.Helper()
	c := machine.Config{Config: place.Config{Cores: len(worlds), Granules: 1, Sets: 1, Ways: 1, Depth: depth, Entries: 1, Banks: 1}, Worlds: worlds, Owners: []int{4}, Words: []int{7, 8, 9, 10}}
	for _, s := range texts {
		p, line, e := isa.Parse(s)
		if e != api.OK {
			t.Fatal(line, e)
		}
		c.Programs = append(c.Programs, p)
	}
	return c
}

func made(t *testing.T, depth int, worlds []int, texts ...string) *machine.Machine {
	t.Helper()
	m, e := machine.New(config(t, depth, worlds, texts...))
	if m == nil || e != api.OK {
		t.Fatal(e)
	}
	return m
}

// byHand is a round, told by its words: what was done.
func byHand(m *machine.Machine) []machine.Do {
	var done []machine.Do
	try := func(d machine.Do) bool {
		n, _ := m.Do(d)
		if n == 1 {
			done = append(done, d)
		}
		return n == 1
	}
	for _, d := range m.Ready() {
		if try(d) && d.What == machine.Deliver && d.B == note.Answers {
			try(machine.Do{What: machine.Step, A: d.A})
		}
	}
	return done
}

const busy = "set 1 9\nstore 1 0\nset 0 2\nload 2 0\nload 3 1\nswap 1 0\nset 0 1\nload 0 0\n"

func TestP19_1Round(t *testing.T) {
	worlds := []int{1, 2, 0}
	m := made(t, 2, worlds, busy, busy, "set 0 1\nload 1 0\nset 0 0\ncall 4 0 1\ncall 2 0 1\n")
	o := m.Copy()
	behind := 0
	for range 200 {
		done := byHand(o)
		for i, d := range done {
			if i > 0 && d.What == machine.Step && done[i-1].What == machine.Deliver {
				behind++
			}
		}
		if n := fair.Round(m); n != len(done) {
			t.Fatal(n, done)
		}
		a, b := m.Shot(), o.Shot()
		if !slices.Equal(a.Notes, b.Notes) || !slices.Equal(a.Copies, b.Copies) || !slices.Equal(slices.Collect(m.Log()), slices.Collect(o.Log())) {
			t.Fatal("not the same round")
		}
	}
	if !m.Over() || behind == 0 {
		t.Error("steps behind a Deliver:", behind)
	}
	if n := fair.Round(m); n != 0 {
		t.Error("all is over:", n)
	}
}

func TestP19_1WhatIsReadyAtItsBeginning(t *testing.T) {
	m := made(t, 2, []int{1}, "load 1 0\n")
	for i, want := range []int{1, 1, 2, 1, 1, 2, 1, 0} { // a step; the walk, while it walks; the word, and a step; ..
		if n := fair.Round(m); n != want {
			t.Error(i, n, want, m.Shot().Notes)
		}
	}
}

func TestP19_1Calm(t *testing.T) {
	c := config(t, 2, []int{1}, "load 1 0\n")
	for most, want := range map[int]int{-1: 0, math.MinInt: 0, 0: 0, 1: 1, 6: 6, 7: 7, 8: 7, math.MaxInt: 7} {
		m, _ := machine.New(c)
		if n, over := fair.Calm(m, most); n != want || over != (want == 7) {
			t.Error(most, n, over)
		}
	}
	for _, s := range []string{"", "halt\n"} {
		m := made(t, 1, []int{0}, s)
		if n, over := fair.Calm(m, 0); n != 0 || !over {
			t.Error(n, over)
		}
		if n, over := fair.Calm(m, 9); n != 0 || !over {
			t.Error(n, over)
		}
	}
	m := made(t, 2, []int{1}, "jump 0\n")
	if n, over := fair.Calm(m, 100); n != 100 || over || m.Len() != 100 {
		t.Error(n, over)
	}
}

func TestP19_1Turns(t *testing.T) {
	m := made(t, 2, []int{1}, "load 1 0\n")
	turns := fair.Turns(m, 3)
	if m.Len() != 0 || len(m.Shot().Notes) != 0 {
		t.Error("rounds are done as they are asked for")
	}
	var got [][2]int
	for no, n := range turns {
		got = append(got, [2]int{no, n})
	}
	for no, n := range turns {
		got = append(got, [2]int{no, n})
		if no == 2 {
			break
		}
	}
	for no, n := range turns {
		got = append(got, [2]int{no, n})
	}
	for range turns {
		t.Error("all is over")
	}
	if !slices.Equal(got, [][2]int{{1, 1}, {2, 1}, {3, 2}, {1, 1}, {2, 1}, {1, 2}, {2, 1}}) || !m.Over() {
		t.Error(got)
	}
	for _, most := range []int{0, -1, math.MinInt} {
		for range fair.Turns(made(t, 1, []int{0}, "fence\n"), most) {
			t.Error(most)
		}
	}
}

func TestP19_1Nil(t *testing.T) {
	if n := fair.Round(nil); n != 0 {
		t.Error(n)
	}
	if n, over := fair.Calm(nil, 5); n != 0 || over {
		t.Error(n, over)
	}
	for range fair.Turns(nil, 5) {
		t.Error("there is nothing")
	}
}

func TestP19_2Straight(t *testing.T) {
	for i, x := range []struct {
		p    []isa.Instr
		want bool
	}{
		{nil, true},
		{[]isa.Instr{{Op: isa.Fence}, {Op: isa.Jump, A: 2}}, true},
		{[]isa.Instr{{Op: isa.Fence}, {Op: isa.Jump, A: 1}}, false},
		{[]isa.Instr{{Op: isa.Fence}, {Op: isa.Jump, A: 0}}, false},
		{[]isa.Instr{{Op: isa.Zero, A: 3, B: 1}}, true},
		{[]isa.Instr{{Op: isa.Zero, A: 3, B: 0}}, false},
		{[]isa.Instr{{Op: isa.Set, A: 0, B: 0}, {Op: isa.Add}, {Op: isa.Call, A: 1}}, true},
		{[]isa.Instr{{Op: isa.Jump, A: 77}}, true},
		{[]isa.Instr{{Op: isa.Zero, B: -1}}, false},
	} {
		for _, c := range []machine.Config{{Programs: [][]isa.Instr{x.p}}, {Programs: [][]isa.Instr{nil, {{Op: isa.Halt}}, x.p}}, {Programs: [][]isa.Instr{x.p, nil}}} {
			if fair.Straight(c) != x.want {
				t.Error(i, x.p)
			}
		}
	}
	if !fair.Straight(machine.Config{}) {
		t.Error("of no programs")
	}
}

func TestP19_2Bound(t *testing.T) {
	if n := fair.Bound(machine.Config{}); n != 2000 {
		t.Error(n)
	}
	if n := fair.Bound(config(t, 1, []int{0, 0}, "halt\nfence\n", "fence\n")); n != 5000 {
		t.Error(n)
	}
}
