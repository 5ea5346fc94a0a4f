package whole

import (
	"math/rand"
	"slices"
	"testing"

	"donjon/atom"
	"donjon/isa"
	"donjon/machine"
	"donjon/table"
)

// touches is a program that reads and writes words of some granules, at places that do not hang on what it reads.
func touches(r *rand.Rand, granules []int) []isa.Instr {
	var p []isa.Instr
	for len(p) < 32 && len(granules) > 0 {
		word := 4*granules[r.Intn(len(granules))] + r.Intn(4)
		p = append(p, isa.Instr{Op: isa.Set, A: 0, B: word}, isa.Instr{Op: isa.Load + r.Intn(3), A: 1, B: 0})
	}
	return p
}

// of is a core's events.
func of(m *machine.Machine, core int) []atom.Event {
	var l []atom.Event
	for x := range m.Log() {
		if x.Core == core {
			l = append(l, x)
		}
	}
	return l
}

// secret is a configuration in which the core 0, of a world, does anything; others, of another world, touch their own granules.
func secret(r *rand.Rand) machine.Config {
	c := sample(r, false)
	mine := 1 + r.Intn(3)
	other := 1 + mine%3
	var theirs []int
	for g := range c.Owners {
		c.Owners[g] = []int{0, 4, mine, mine, other}[r.Intn(5)]
		if c.Owners[g] == other {
			theirs = append(theirs, g)
		}
	}
	for i := range c.Cores {
		c.Worlds[i] = mine
		if i > 0 && r.Intn(2) == 0 {
			c.Worlds[i], c.Programs[i] = other, touches(r, theirs)
		}
	}
	return c
}

// TestT2WordsThatAWorldMayNotHaveDoNotCount picks the same of two machines that differ in such words alone.
func TestT2WordsThatAWorldMayNotHaveDoNotCount(t *testing.T) {
	events := 0
	for seed := range int64(300) {
		r := rand.New(rand.NewSource(seed))
		c := secret(r)
		m := made(t, c)
		c.Words = slices.Clone(c.Words)
		for w := range c.Words {
			if !table.May(c.Worlds[0], c.Owners[w/4]) {
				c.Words[w] += 1 + r.Intn(5)
			}
		}
		o := made(t, c)
		for range 600 {
			d, is := pick(r, m)
			if !is {
				break
			}
			n, e := m.Do(d)
			if k, f := o.Do(d); n != k || e != f {
				t.Fatal(seed, d, n, e, k, f)
			}
		}
		for i, world := range c.Worlds {
			if world == c.Worlds[0] && !slices.Equal(of(m, i), of(o, i)) {
				t.Fatal(seed, i, of(m, i), of(o, i))
			}
		}
		events += len(of(m, 0))
	}
	if events < 1000 {
		t.Error("too little was told:", events)
	}
}

// TestT2WhatGoesFromWorldToWorldIsZero marks all words: without Root's doing, and without what is shared, a mark stays in its world.
func TestT2WhatGoesFromWorldToWorldIsZero(t *testing.T) {
	const mark = 1 << 40
	moved, told := 0, 0
	for seed := range int64(400) {
		r := rand.New(rand.NewSource(seed))
		c := sample(r, false)
		for i := range c.Worlds {
			c.Worlds[i] = 1 + r.Intn(3)
			for j, x := range c.Programs[i] {
				switch {
				case x.Op == isa.Add:
					c.Programs[i][j] = isa.Instr{Op: isa.Fence}
				case x.Op == isa.Call && x.A == isa.Share:
					c.Programs[i][j].A = isa.Transfer
				}
			}
		}
		for g := range c.Owners {
			c.Owners[g] = r.Intn(4)
		}
		for w := range c.Words {
			c.Words[w] = mark + w
		}
		m := made(t, c)
		for range 800 {
			d, is := pick(r, m)
			if !is {
				break
			}
			m.Do(d)
		}
		for x := range m.Log() {
			if x.Op == isa.Call && x.Code == 0 {
				moved++
			}
			if !isa.Memory(x.Op) || x.Value < mark {
				continue
			}
			told++
			if owner := c.Owners[(x.Value-mark)/4]; owner != x.World {
				t.Fatal(seed, x, "is told a word of", owner)
			}
		}
	}
	if moved < 50 || told < 500 {
		t.Error("too little was done:", moved, told)
	}
}
