package whole

import (
	"math/rand"
	"slices"
	"testing"

	"donjon/api"
	"donjon/isa"
	"donjon/machine"
	"donjon/script"
)

// TestP20_3ThereAndBack prints what was done with a machine, and does it anew.
func TestP20_3ThereAndBack(t *testing.T) {
	for seed := range int64(150) {
		r := rand.New(rand.NewSource(seed))
		s := script.Script{Config: sample(r, false)}
		m := made(t, s.Config)
		done := 0
		for range r.Intn(300) {
			d, is := pick(r, m)
			if !is {
				break
			}
			if d.What < machine.Step || d.What > machine.Finish {
				continue
			}
			if d.What != machine.Deliver {
				d.B, d.C = 0, 0
			}
			s.Do = append(s.Do, d)
			if _, e := m.Do(d); e == api.OK {
				done++
			}
		}
		text, e := script.Print(s)
		back, f := script.Parse(text)
		again, g := script.Print(back)
		if e != api.OK || f != api.OK || g != api.OK || again != text || !same(s, back) {
			t.Fatal(seed, e, f, g)
		}
		told, e := script.Run(back)
		if e != api.OK || told.Done != done || told.Refused != len(s.Do)-done || told.Over != m.Over() || !slices.Equal(told.Events, slices.Collect(m.Log())) {
			t.Fatal(seed, told, e)
		}
	}
}

// same tells whether two scripts are, lists without elements being nil or not.
func same(a, b script.Script) bool {
	return a.Config.Config == b.Config.Config && slices.Equal(a.Worlds, b.Worlds) && slices.Equal(a.Owners, b.Owners) && slices.Equal(a.Words, b.Words) &&
		slices.EqualFunc(a.Programs, b.Programs, slices.Equal[[]isa.Instr]) && slices.Equal(a.Do, b.Do)
}
