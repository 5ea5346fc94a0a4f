package whole

import (
	"math/rand"
	"slices"
	"testing"

	"donjon/api"
	"donjon/atom"
	"donjon/isa"
	"donjon/machine"
	"donjon/safe"
)

// TestP17_3NothingIsEverWrong looks at a machine behind each thing that is done.
func TestP17_3NothingIsEverWrong(t *testing.T) {
	finished := 0
	for seed := range int64(250) {
		r := rand.New(rand.NewSource(seed))
		c := sample(r, false)
		m := made(t, c)
		for range 500 {
			d, is := pick(r, m)
			if !is {
				break
			}
			_, e := m.Do(d)
			s := m.Shot()
			if w, f := safe.Check(c.Config, s); w != (safe.Wrong{}) || f != api.OK {
				t.Fatal(seed, d, w, f)
			}
			if e == api.OK && d.What == machine.Finish {
				finished++
				gone(t, c, m, s, d.A)
			}
		}
	}
	if finished < 100 {
		t.Error("calls did not come to their end:", finished)
	}
}

// gone holds what is promised right behind a finish.
func gone(t *testing.T, c machine.Config, m *machine.Machine, s machine.Shot, granule int) {
	t.Helper()
	l := slices.Collect(m.Log())
	x := l[len(l)-1]
	if x.Op != isa.Call || x.Code != api.OK || x.Word != granule {
		t.Fatal(x)
	}
	if is, e := safe.Gone(c.Config, s, granule); !is || e != api.OK {
		t.Fatal(x, is, e)
	}
	if is, e := safe.Zero(c.Config, s, granule); !is && scrubs(c, x) || e != api.OK {
		t.Fatal(x, is, e)
	}
}

// scrubs tells whether a call that was taken is one that scrubs.
func scrubs(c machine.Config, x atom.Event) bool {
	return c.Programs[x.Core][x.At].A != isa.Share
}
