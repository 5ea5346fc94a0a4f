package atom_test

import (
	"math/rand"
	"testing"

	"donjon/api"
	"donjon/isa"
	"donjon/table"
)

// anything is a program of any instructions, whose registers tell words and granules often.
func anything(r *rand.Rand, words int) []isa.Instr {
	p := make([]isa.Instr, 1+r.Intn(32))
	for i := range p {
		reg := func() int { return r.Intn(isa.Regs) }
		x := isa.Instr{Op: 1 + r.Intn(isa.Zero)}
		switch x.Op {
		case isa.Set:
			x.A, x.B = reg(), r.Intn(words+2)-1
			if r.Intn(2) == 0 {
				x.B = r.Intn(5)
			}
		case isa.Add:
			x.A, x.B, x.C = reg(), reg(), reg()
		case isa.Load, isa.Store, isa.Swap:
			x.A, x.B = reg(), reg()
		case isa.World:
			x.A = 1 + r.Intn(3)
		case isa.Call:
			x.A, x.B, x.C = 1+r.Intn(4), reg(), reg()
		case isa.Jump:
			x.A = r.Intn(len(p) + 1)
		case isa.Zero:
			x.A, x.B = reg(), r.Intn(len(p)+1)
		}
		p[i] = x
	}
	return p
}

func random(t *testing.T, r *rand.Rand) parts {
	p := setup(t, make([]int, 1+r.Intn(4)), make([]int, 1+r.Intn(5)))
	for i := range p.worlds {
		p.worlds[i] = r.Intn(4)
		p.programs = append(p.programs, anything(r, len(p.words)))
	}
	for i := range p.owners {
		p.owners[i] = r.Intn(5)
	}
	return p
}

// Two machines that differ only in words that a core's world may not have tell that core the same.
func TestP11_4WhatACoreIsTold(t *testing.T) {
	for seed := range int64(400) {
		r := rand.New(rand.NewSource(seed))
		p := random(t, r)
		p.worlds[0] = 1 + r.Intn(3)
		p.programs = append([][]isa.Instr{p.programs[0]}, make([][]isa.Instr, len(p.programs)-1)...)
		m, e := p.new()
		if e != api.OK {
			t.Fatal(e)
		}
		for w := range p.words {
			if !table.May(p.worlds[0], p.owners[w/4]) {
				p.words[w] = r.Int()
			}
		}
		for g, owner := range p.owners { // an owner counts, too, only of what the world may have: Root's may be another world's
			if other := r.Intn(4); !table.May(p.worlds[0], owner) && other != p.worlds[0] && !calls(p.programs[0]) {
				p.owners[g] = other
			}
		}
		o, e := p.new()
		if e != api.OK {
			t.Fatal(e)
		}
		for range 100 {
			a, f := m.Step(0, false)
			b, g := o.Step(0, false)
			if a != b || f != g {
				t.Fatal(seed, a, b, f, g)
			}
		}
	}
}

func calls(p []isa.Instr) bool {
	for _, x := range p {
		if x.Op == isa.Call {
			return true
		}
	}
	return false
}

func TestP11_4WhoTurnsWords(t *testing.T) {
	for seed := range int64(400) {
		r := rand.New(rand.NewSource(seed))
		p := random(t, r)
		m, e := p.new()
		if e != api.OK {
			t.Fatal(e)
		}
		for range 200 {
			core := r.Intn(len(p.worlds))
			was := m.Copy()
			x, e := m.Step(core, r.Intn(8) == 0)
			if e != api.OK {
				continue
			}
			for w := range p.words {
				before, after := word(t, was, w), word(t, m, w)
				owner, _ := was.Owner(w / 4)
				mine := isa.Memory(x.Op) && x.Word == w && table.May(x.World, owner)
				scrubbed := x.Op == isa.Call && x.Word == w/4 && x.Code == api.OK && after == 0
				if before != after && !mine && !scrubbed {
					t.Fatal(seed, x, w, before, after)
				}
			}
		}
	}
}
