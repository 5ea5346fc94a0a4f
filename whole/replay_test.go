package whole

import (
	"math/rand"
	"slices"
	"testing"

	"donjon/api"
	"donjon/atom"
	"donjon/machine"
	"donjon/replay"
)

// words holds that each word is what the atomic machine has.
func words(t *testing.T, c machine.Config, m *machine.Machine) {
	t.Helper()
	told, e := replay.Run(c, slices.Collect(m.Log())...)
	s := m.Shot()
	if e != api.OK {
		t.Fatal(e)
	}
	for w, want := range told.Words {
		if v, is := replay.Word(s, w); v != want || !is {
			t.Fatal(w, v, is, want)
		}
	}
	for g, want := range told.Owners {
		if s.Table[g].Owner != want || s.Table[g].Locked {
			t.Fatal(g, s.Table[g], want)
		}
	}
}

// TestT1AndP18_3OneMachine picks in any order: what the cores are told is what the atomic machine tells.
func TestT1AndP18_3OneMachine(t *testing.T) {
	over, codes := 0, map[api.Errno]int{}
	for seed := range int64(400) {
		r := rand.New(rand.NewSource(seed))
		c := sample(r, false)
		m := made(t, c)
		for i := range 1500 {
			d, is := pick(r, m)
			if !is || m.Len() > 500 {
				break
			}
			m.Do(d)
			if i%50 == 0 && !replay.Holds(c, m) {
				t.Fatal(seed, i, d)
			}
		}
		if !replay.Holds(c, m) {
			t.Fatal(seed)
		}
		if m.Over() {
			over++
			words(t, c, m)
		}
		beginnings(t, c, slices.Collect(m.Log()))
		for x := range m.Log() {
			codes[x.Code]++
		}
	}
	if over < 40 {
		t.Error("too few are over:", over)
	}
	for _, e := range []api.Errno{api.OK, api.ErrFault, api.ErrWorld, api.ErrBusy, api.ErrState, api.ErrArg, api.ErrRange} {
		if codes[e] == 0 {
			t.Error(e, "never came")
		}
	}
}

// beginnings holds that each beginning of a log fits.
func beginnings(t *testing.T, c machine.Config, l []atom.Event) {
	t.Helper()
	for many := 0; many <= len(l); many += 1 + many/3 {
		if told, e := replay.Run(c, l[:many]...); told.Events != many || e != api.OK {
			t.Fatal(many, told.Events, e)
		}
	}
}
