package bank_test

import (
	"maps"
	"math"
	"math/rand"
	"testing"

	"donjon/api"
	"donjon/bank"
	"donjon/place"
)

func config(granules, banks int) place.Config {
	return place.Config{Cores: 1, Granules: granules, Sets: 1, Ways: 1, Depth: 1, Entries: 1, Banks: banks}
}

func memory(t *testing.T, granules, banks int) *bank.Memory {
	t.Helper()
	m, e := bank.New(config(granules, banks))
	if m == nil || e != api.OK {
		t.Fatal(m, e)
	}
	return m
}

// uses is the reads and writes of all banks.
func uses(t *testing.T, m *bank.Memory, banks int) [][2]int {
	t.Helper()
	var out [][2]int
	for b := range banks {
		r, w, e := m.Uses(b)
		if e != api.OK {
			t.Error(b, e)
		}
		out = append(out, [2]int{r, w})
	}
	return out
}

func TestP2_1New(t *testing.T) {
	m := memory(t, 3, 2)
	n := 0
	for line, l := range m.All() {
		if line != n || l != (api.Line{}) {
			t.Error(line, l)
		}
		n++
	}
	if n != 6 {
		t.Error(n, "lines")
	}
	for word := range 12 {
		if v, e := m.Get(word); v != 0 || e != api.OK {
			t.Error(word, v, e)
		}
	}
	for _, c := range []place.Config{{}, config(17, 1), config(0, 1), config(1, 5)} {
		if m, e := bank.New(c); m != nil || e != api.ErrRange {
			t.Error(c, m, e)
		}
	}
}

func TestP2_1ReadAndWrite(t *testing.T) {
	m := memory(t, 4, 3)
	if e := m.Write(3, api.Line{5, 6}); e != api.OK {
		t.Error(e)
	}
	if v, e := m.Get(7); v != 6 || e != api.OK {
		t.Error(v, e)
	}
	if l, e := m.Read(3); l != (api.Line{5, 6}) || e != api.OK {
		t.Error(l, e)
	}
	if e := m.Set(6, -9); e != api.OK {
		t.Error(e)
	}
	if l, _ := m.Read(3); l != (api.Line{-9, 6}) {
		t.Error(l)
	}
	if e := m.Scrub(1); e != api.OK {
		t.Error(e)
	}
	if l, e := m.Read(3); l != (api.Line{}) || e != api.OK {
		t.Error(l, e)
	}
}

func TestP2_1Ranges(t *testing.T) {
	m := memory(t, 2, 1)
	for line := range 4 {
		m.Write(line, api.Line{1, 2})
	}
	was := m.Copy()
	for _, x := range []int{-1, 4, math.MinInt, math.MaxInt} {
		if l, e := m.Read(x); l != (api.Line{}) || e != api.ErrRange {
			t.Error("Read", x, l, e)
		}
		if e := m.Write(x, api.Line{7, 7}); e != api.ErrRange {
			t.Error("Write", x, e)
		}
	}
	for _, x := range []int{-1, 8, math.MinInt, math.MaxInt} {
		if v, e := m.Get(x); v != 0 || e != api.ErrRange {
			t.Error("Get", x, v, e)
		}
		if e := m.Set(x, 7); e != api.ErrRange {
			t.Error("Set", x, e)
		}
	}
	for _, x := range []int{-1, 2, math.MinInt, math.MaxInt} {
		if e := m.Scrub(x); e != api.ErrRange {
			t.Error("Scrub", x, e)
		}
	}
	if !m.Same(was) || uses(t, m, 1)[0] != uses(t, was, 1)[0] {
		t.Error("an error turned something")
	}
}

func TestP2_1Uses(t *testing.T) {
	m := memory(t, 3, 3) // lines 0 and 3 in the bank 0, 1 and 4 in 1, 2 and 5 in 2
	m.Read(4)
	m.Read(1)
	m.Write(2, api.Line{1, 1})
	m.Get(0)
	m.Set(0, 1)
	for range m.All() {
	}
	m.Same(m.Copy())
	if u := uses(t, m, 3); u[0] != [2]int{0, 0} || u[1] != [2]int{2, 0} || u[2] != [2]int{0, 1} {
		t.Error(u)
	}
	m.Scrub(1) // lines 2 and 3
	if u := uses(t, m, 3); u[0] != [2]int{0, 1} || u[1] != [2]int{2, 0} || u[2] != [2]int{0, 2} {
		t.Error(u)
	}
	one := memory(t, 3, 1)
	one.Scrub(2)
	if u := uses(t, one, 1); u[0] != [2]int{0, 2} {
		t.Error("a scrub writes both lines of one bank:", u)
	}
}

func TestP2_2UsesOfNoBank(t *testing.T) {
	m := memory(t, 3, 3)
	for _, b := range []int{-1, 3, math.MinInt, math.MaxInt} {
		if r, w, e := m.Uses(b); r != 0 || w != 0 || e != api.ErrRange {
			t.Error(b, r, w, e)
		}
	}
}

func TestP2_2All(t *testing.T) {
	m := memory(t, 3, 2)
	for line := range 6 {
		m.Write(line, api.Line{line, 10 * line})
	}
	all := m.All()
	m.Write(4, api.Line{9, 9}) // behind All: not to be seen
	for range 2 {
		want := 0
		for line, l := range all {
			if line != want || l != (api.Line{line, 10 * line}) {
				t.Error(line, l)
			}
			m.Scrub(1)
			want++
		}
		if want != 6 {
			t.Error(want)
		}
	}
	for line := range m.All() {
		if line == 2 {
			break
		}
	}
}

func TestP2_2Same(t *testing.T) {
	a, b := memory(t, 3, 2), memory(t, 3, 4)
	if !a.Same(b) || !b.Same(a) || !a.Same(a) {
		t.Error("banks count for nothing")
	}
	a.Read(0)
	if !a.Same(b) {
		t.Error("uses count for nothing")
	}
	b.Set(11, 1)
	if a.Same(b) || b.Same(a) {
		t.Error("one word is another one")
	}
	if less := memory(t, 2, 2); a.Same(less) || less.Same(a) {
		t.Error("other lines")
	}
}

func TestP2_2Copy(t *testing.T) {
	a := memory(t, 2, 2)
	a.Write(1, api.Line{3, 4})
	a.Read(0)
	b := a.Copy()
	if !b.Same(a) || uses(t, b, 2)[0] != [2]int{1, 0} || uses(t, b, 2)[1] != [2]int{0, 1} {
		t.Error("not the same", uses(t, b, 2))
	}
	b.Set(2, 9)
	b.Read(0)
	if v, _ := a.Get(2); v != 3 || uses(t, a, 2)[0] != [2]int{1, 0} {
		t.Error("the copy is not of its own:", v)
	}
	a.Set(3, 8)
	if v, _ := b.Get(3); v != 4 {
		t.Error("the copy is not of its own:", v)
	}
}

func TestP2_2Nil(t *testing.T) {
	var m *bank.Memory
	l, e := m.Read(0)
	v, f := m.Get(0)
	r, w, g := m.Uses(0)
	if l != (api.Line{}) || v != 0 || r != 0 || w != 0 || e != api.ErrNil || f != api.ErrNil || g != api.ErrNil {
		t.Error(l, v, r, w, e, f, g)
	}
	if m.Write(0, l) != api.ErrNil || m.Set(0, 1) != api.ErrNil || m.Scrub(0) != api.ErrNil || m.Copy() != nil {
		t.Error("ErrNil")
	}
	if _, e := m.Read(-1); e != api.ErrNil {
		t.Error("ErrNil comes ahead:", e)
	}
	for range m.All() {
		t.Error("there is nothing")
	}
	if there := memory(t, 1, 1); !m.Same(nil) || m.Same(there) || there.Same(nil) {
		t.Error("nil is the same as nil alone")
	}
}

func TestP2_3WordsAreWhatWasPutLast(t *testing.T) {
	for seed := range int64(40) {
		r := rand.New(rand.NewSource(seed))
		granules := 1 + r.Intn(16)
		m := memory(t, granules, 1+r.Intn(4))
		want := map[int]int{}
		for range 200 {
			switch line := r.Intn(2 * granules); r.Intn(3) {
			case 0:
				l := api.Line{r.Int(), r.Int()}
				m.Write(line, l)
				want[2*line], want[2*line+1] = l[0], l[1]
			case 1:
				m.Set(2*line+1, -line)
				want[2*line+1] = -line
			case 2:
				m.Scrub(line / 2)
				for w := range 4 {
					delete(want, line/2*4+w)
				}
			}
			maps.DeleteFunc(want, func(_, v int) bool { return v == 0 })
		}
		for line, l := range m.All() {
			if read, _ := m.Read(line); read != l || l != (api.Line{want[2*line], want[2*line+1]}) {
				t.Error(seed, line, l, read)
			}
		}
	}
}
