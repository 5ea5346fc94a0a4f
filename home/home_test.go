package home_test

import (
	"math"
	"slices"
	"testing"

	"donjon/api"
	"donjon/home"
	"donjon/place"
)

// config has 2 granules, 4 lines.
func config(cores int) place.Config {
	return place.Config{Cores: cores, Granules: 2, Sets: 1, Ways: 1, Depth: 1, Entries: 1, Banks: 2}
}

// judge lets all worlds but 3 have a line, and tells its owner; it remembers what it was asked.
type judge struct {
	owner int
	asked [][2]int
	seen  func()
}

func (j *judge) May(world, line int) (int, bool) {
	j.asked = append(j.asked, [2]int{world, line})
	if j.seen != nil {
		j.seen()
	}
	return j.owner, world != 3
}

func made(t *testing.T, cores int) *home.Home {
	t.Helper()
	h, e := home.New(config(cores))
	if h == nil || e != api.OK {
		t.Fatal(e)
	}
	return h
}

// take lets a home take a note that must be taken: the notes.
func take(t *testing.T, h *home.Home, n api.Note) []api.Note {
	t.Helper()
	notes, e := h.Take(n)
	if e != api.OK {
		t.Fatal(n, e)
	}
	return notes
}

// begin lets a home begin with line 1, for the owner 2.
func begin(t *testing.T, h *home.Home) []api.Note {
	t.Helper()
	notes, e := h.Begin(1, &judge{owner: 2})
	if e != api.OK {
		t.Fatal(e)
	}
	return notes
}

// ask is a core's request of line 1, begun.
func ask(t *testing.T, h *home.Home, kind, core int) []api.Note {
	t.Helper()
	take(t, h, api.Note{Kind: kind, Core: core, Line: 1, World: 1})
	return begin(t, h)
}

// have lets cores have line 1 by asking for it, and being granted it.
func have(t *testing.T, h *home.Home, kind int, cores ...int) {
	t.Helper()
	for _, core := range cores {
		notes := ask(t, h, kind, core)
		for len(notes) > 0 && notes[0].Kind == api.Probe { // an owner whose line was not written
			notes = take(t, h, api.Note{Kind: api.Reply, Core: notes[0].Core, Line: 1, State: notes[0].State})
		}
		if len(notes) != 1 || notes[0].Kind != api.Grant {
			t.Fatal(notes)
		}
		take(t, h, api.Note{Kind: api.Done, Core: core, Line: 1})
	}
}

func who(t *testing.T, h *home.Home, owner int, sharers ...int) {
	t.Helper()
	if o, s, e := h.Who(1); o != owner || !slices.Equal(s, sharers) || e != api.OK {
		t.Error("has it:", o, s, e, "not", owner, sharers)
	}
}

func same(t *testing.T, got []api.Note, want ...api.Note) {
	t.Helper()
	if !slices.Equal(got, want) {
		t.Errorf("notes %+v, not %+v", got, want)
	}
}

func probe(core, to int) api.Note {
	return api.Note{Kind: api.Probe, Core: core, Line: 1, State: to}
}

func grant(core, state int, data api.Line) api.Note {
	return api.Note{Kind: api.Grant, Core: core, Line: 1, World: 2, State: state, Data: data}
}

func TestP12_1New(t *testing.T) {
	wrong := config(1)
	wrong.Depth = 17
	for _, c := range []place.Config{{}, wrong} {
		if h, e := home.New(c); h != nil || e != api.ErrRange {
			t.Error(c, e)
		}
	}
	h := made(t, 4)
	for line := range 4 {
		o, s, e := h.Who(line)
		if o != -1 || len(s) != 0 || e != api.OK || h.Busy(line) || h.Waits(line) != 0 || h.Sweeps(line) != 0 {
			t.Error(line, o, s, e)
		}
	}
	for line, l := range h.All() {
		if l != (api.Line{}) {
			t.Error(line, l)
		}
	}
	if h.Set(7, 9) != api.OK || len(slices.Collect(h.Ready())) != 0 {
		t.Error("its memory is promoted")
	}
	if l, _ := h.Read(3); l != (api.Line{0, 9}) {
		t.Error(l)
	}
}

func TestP12_1TakeErrors(t *testing.T) {
	h := made(t, 2)
	for _, kind := range []int{0, -1, 14, api.Walk, api.Dropped, api.Grant, api.Nack, api.PutAck, api.Probe, api.Walked, api.Drop, math.MinInt, math.MaxInt} {
		if n, e := h.Take(api.Note{Kind: kind, Core: 9, Line: 9}); n != nil || e != api.ErrKind {
			t.Error(kind, n, e)
		}
	}
	for _, kind := range []int{api.GetS, api.GetM, api.Put, api.Done, api.Reply} {
		for _, x := range [][2]int{{-1, 0}, {2, 0}, {0, -1}, {0, 4}, {math.MaxInt, 0}, {0, math.MinInt}} {
			if n, e := h.Take(api.Note{Kind: kind, Core: x[0], Line: x[1]}); n != nil || e != api.ErrRange {
				t.Error(kind, x, n, e)
			}
		}
	}
	for _, kind := range []int{api.Done, api.Reply} {
		if n, e := h.Take(api.Note{Kind: kind}); n != nil || e != api.ErrState {
			t.Error(kind, n, e)
		}
	}
	for line := range 4 {
		if h.Waits(line) != 0 {
			t.Error("an error waits")
		}
	}
}

func TestP12_1RequestsWaitWhateverTheyTell(t *testing.T) {
	h := made(t, 2)
	for i, kind := range []int{api.GetS, api.GetM, api.Put} {
		n := take(t, h, api.Note{Kind: kind, Core: 1, Line: 2, World: -77, State: 99, No: math.MinInt})
		if len(n) != 0 || h.Waits(2) != i+1 || h.Busy(2) {
			t.Error(kind, n, h.Waits(2))
		}
	}
}

func TestP12_1Sweeps(t *testing.T) {
	h := made(t, 2)
	for _, line := range []int{-1, 4, math.MinInt, math.MaxInt} {
		if h.Sweep(line) != api.ErrRange || h.Sweeps(line) != 0 {
			t.Error(line)
		}
	}
	have(t, h, api.GetM, 0)
	take(t, h, api.Note{Kind: api.GetS, Core: 1, Line: 1})
	h.Sweep(1)
	h.Sweep(1)
	if h.Sweeps(1) != 2 || h.Sweeps(0) != 0 || h.Waits(1) != 3 {
		t.Error(h.Sweeps(1), h.Waits(1))
	}
	begin(t, h) // the GetS: core 0 is probed
	take(t, h, api.Note{Kind: api.Reply, Core: 0, Line: 1})
	take(t, h, api.Note{Kind: api.Done, Core: 1, Line: 1})
	begin(t, h) // a sweep is served
	if h.Sweeps(1) != 2 || h.Waits(1) != 1 || !h.Busy(1) {
		t.Error(h.Sweeps(1), h.Waits(1))
	}
	take(t, h, api.Note{Kind: api.Reply, Core: 1, Line: 1})
	if h.Sweeps(1) != 1 || h.Busy(1) {
		t.Error(h.Sweeps(1))
	}
	begin(t, h) // no holders are left
	if h.Sweeps(1) != 0 || h.Busy(1) {
		t.Error(h.Sweeps(1))
	}
}

func TestP12_2BeginErrors(t *testing.T) {
	h := made(t, 2)
	for _, line := range []int{-1, 4, math.MinInt, math.MaxInt} {
		if n, e := h.Begin(line, nil); n != nil || e != api.ErrRange {
			t.Error(line, n, e)
		}
	}
	if n, e := h.Begin(1, nil); n != nil || e != api.ErrNil {
		t.Error(n, e)
	}
	j := &judge{}
	if n, e := h.Begin(1, j); n != nil || e != api.ErrNone {
		t.Error(n, e)
	}
	ask(t, h, api.GetS, 0)
	for _, want := range []int{0, 1} {
		if h.Waits(1) != want {
			t.Error(h.Waits(1))
		}
		if n, e := h.Begin(1, nil); n != nil || e != api.ErrNil {
			t.Error(n, e)
		}
		if n, e := h.Begin(1, j); n != nil || e != api.ErrState {
			t.Error(n, e)
		}
		take(t, h, api.Note{Kind: api.GetS, Core: 1, Line: 1})
	}
	if len(j.asked) != 0 {
		t.Error("the judge was asked:", j.asked)
	}
}

func TestP12_2TheJudge(t *testing.T) {
	h := made(t, 2)
	for _, n := range []api.Note{{Kind: api.GetS, World: 3}, {Kind: api.Put, World: 3, Dirty: true}, {Kind: api.GetM, Core: 1, World: -5}} {
		n.Line = 1
		take(t, h, n)
	}
	h.Sweep(1)
	waited := -1
	j := &judge{owner: 4, seen: func() { waited = h.Waits(1) }}
	n, e := h.Begin(1, j)
	same(t, n, api.Note{Kind: api.Nack, Line: 1})
	if e != api.OK || waited != 3 || h.Busy(1) {
		t.Error(e, waited)
	}
	n, _ = h.Begin(1, j)
	same(t, n, api.Note{Kind: api.PutAck, Line: 1})
	n, _ = h.Begin(1, j)
	same(t, n, api.Note{Kind: api.Grant, Core: 1, Line: 1, World: 4, State: api.Modified})
	take(t, h, api.Note{Kind: api.Done, Core: 1, Line: 1})
	n, _ = h.Begin(1, j)
	same(t, n, probe(1, api.Invalid))
	if !slices.Equal(j.asked, [][2]int{{3, 1}, {-5, 1}}) {
		t.Error("was asked:", j.asked)
	}
}

func TestP12_2Put(t *testing.T) {
	for i, x := range []struct {
		holders []int
		core    int
		dirty   bool
		owner   int
		sharers []int
		memory  api.Line
	}{
		{nil, 0, true, -1, nil, api.Line{}},
		{[]int{0}, 0, false, -1, nil, api.Line{}},
		{[]int{0}, 0, true, -1, nil, api.Line{5, 6}},
		{[]int{0}, 1, true, 0, nil, api.Line{}},
		{[]int{0, 1, 2}, 1, true, -1, []int{0, 2}, api.Line{}},
	} {
		h := made(t, 3)
		have(t, h, api.GetS, x.holders...)
		take(t, h, api.Note{Kind: api.Put, Core: x.core, Line: 1, World: 3, Data: api.Line{5, 6}, Dirty: x.dirty})
		same(t, begin(t, h), api.Note{Kind: api.PutAck, Core: x.core, Line: 1})
		who(t, h, x.owner, x.sharers...)
		if l, _ := h.Read(1); l != x.memory || h.Busy(1) {
			t.Error(i, l)
		}
	}
}

func TestP12_2And3GetS(t *testing.T) {
	h := made(t, 4)
	h.Write(1, api.Line{3, 4})
	same(t, ask(t, h, api.GetS, 2), grant(2, api.Exclusive, api.Line{3, 4}))
	who(t, h, 2)
	if !h.Busy(1) {
		t.Error("the line is busy till the Done")
	}
	take(t, h, api.Note{Kind: api.Done, Core: 2, Line: 1})
	same(t, ask(t, h, api.GetS, 0), probe(2, api.Sharing))
	same(t, take(t, h, api.Note{Kind: api.Reply, Core: 2, Line: 1, State: api.Owned, Dirty: true, Data: api.Line{7, 8}}), grant(0, api.Sharing, api.Line{7, 8}))
	who(t, h, 2, 0)
	if l, _ := h.Read(1); l != (api.Line{3, 4}) {
		t.Error("memory stays as it is:", l)
	}
	take(t, h, api.Note{Kind: api.Done, Core: 0, Line: 1})
	same(t, ask(t, h, api.GetS, 1), probe(2, api.Sharing))
	same(t, take(t, h, api.Note{Kind: api.Reply, Core: 2, Line: 1, State: api.Sharing, Data: api.Line{9, 9}}), grant(1, api.Sharing, api.Line{3, 4}))
	who(t, h, -1, 0, 1, 2)
	take(t, h, api.Note{Kind: api.Done, Core: 1, Line: 1})
	same(t, ask(t, h, api.GetS, 3), grant(3, api.Sharing, api.Line{3, 4}))
	who(t, h, -1, 0, 1, 2, 3)
}

func TestP12_2GetSOfTheOwnerItself(t *testing.T) {
	h := made(t, 3)
	h.Write(1, api.Line{1, 2})
	have(t, h, api.GetM, 1)
	same(t, ask(t, h, api.GetS, 1), grant(1, api.Exclusive, api.Line{1, 2}))
	who(t, h, 1)
	take(t, h, api.Note{Kind: api.Done, Core: 1, Line: 1})
	ask(t, h, api.GetS, 0)
	take(t, h, api.Note{Kind: api.Reply, Core: 1, Line: 1, State: api.Owned})
	take(t, h, api.Note{Kind: api.Done, Core: 0, Line: 1})
	who(t, h, 1, 0)
	same(t, ask(t, h, api.GetS, 1), grant(1, api.Sharing, api.Line{1, 2}))
	who(t, h, -1, 0, 1)
}

func TestP12_3ASharerThatIsAloneIsGrantedExclusive(t *testing.T) {
	h := made(t, 2)
	have(t, h, api.GetS, 0, 1)
	who(t, h, -1, 0, 1)
	ask(t, h, api.Put, 1)
	same(t, ask(t, h, api.GetS, 0), grant(0, api.Exclusive, api.Line{}))
	who(t, h, 0)
}

func TestP12_2And3GetM(t *testing.T) {
	h := made(t, 4)
	h.Write(1, api.Line{3, 4})
	same(t, ask(t, h, api.GetM, 3), grant(3, api.Modified, api.Line{3, 4}))
	who(t, h, 3)
	take(t, h, api.Note{Kind: api.Done, Core: 3, Line: 1})
	for _, core := range []int{2, 0} {
		ask(t, h, api.GetS, core)
		take(t, h, api.Note{Kind: api.Reply, Core: 3, Line: 1, State: api.Owned, Dirty: true})
		take(t, h, api.Note{Kind: api.Done, Core: core, Line: 1})
	}
	who(t, h, 3, 0, 2)
	same(t, ask(t, h, api.GetM, 2), probe(0, api.Invalid), probe(3, api.Invalid))
	same(t, take(t, h, api.Note{Kind: api.Reply, Core: 3, Line: 1, Dirty: true, Data: api.Line{8, 8}}))
	if l, _ := h.Read(1); l != (api.Line{8, 8}) || !h.Busy(1) {
		t.Error(l)
	}
	who(t, h, -1, 0, 2)
	same(t, take(t, h, api.Note{Kind: api.Reply, Core: 0, Line: 1, Data: api.Line{1, 1}}), grant(2, api.Modified, api.Line{8, 8}))
	who(t, h, 2)
	take(t, h, api.Note{Kind: api.Done, Core: 2, Line: 1})
	same(t, ask(t, h, api.GetM, 2), grant(2, api.Modified, api.Line{8, 8}))
	who(t, h, 2)
}

func TestP12_2Sweep(t *testing.T) {
	h := made(t, 4)
	h.Sweep(1)
	same(t, begin(t, h))
	if h.Busy(1) || h.Sweeps(1) != 0 {
		t.Error("it is over at once")
	}
	have(t, h, api.GetM, 2)
	for _, core := range []int{3, 0} {
		ask(t, h, api.GetS, core)
		take(t, h, api.Note{Kind: api.Reply, Core: 2, Line: 1, State: api.Owned, Dirty: true})
		take(t, h, api.Note{Kind: api.Done, Core: core, Line: 1})
	}
	h.Sweep(1)
	same(t, begin(t, h), probe(0, api.Invalid), probe(2, api.Invalid), probe(3, api.Invalid))
	for i, core := range []int{3, 2, 0} {
		same(t, take(t, h, api.Note{Kind: api.Reply, Core: core, Line: 1, Dirty: core == 2, Data: api.Line{core, 5}}))
		if h.Busy(1) != (i < 2) || (h.Sweeps(1) == 1) != (i < 2) {
			t.Error(i)
		}
	}
	who(t, h, -1)
	if l, _ := h.Read(1); l != (api.Line{2, 5}) || h.Sweeps(1) != 0 {
		t.Error(l)
	}
}

func TestP12_4ReplyErrors(t *testing.T) {
	h := made(t, 3)
	have(t, h, api.GetS, 0, 1)
	ask(t, h, api.GetM, 2)
	if n, e := h.Take(api.Note{Kind: api.Reply, Core: 2, Line: 1, Dirty: true}); n != nil || e != api.ErrState {
		t.Error("of that core none is waited for:", n, e)
	}
	if n, e := h.Take(api.Note{Kind: api.Reply, Core: 0, Line: 0}); n != nil || e != api.ErrState {
		t.Error("nor of another line:", n, e)
	}
	take(t, h, api.Note{Kind: api.Reply, Core: 0, Line: 1})
	if n, e := h.Take(api.Note{Kind: api.Reply, Core: 0, Line: 1, Dirty: true, Data: api.Line{9, 9}}); n != nil || e != api.ErrState {
		t.Error("it came already:", n, e)
	}
	if n, e := h.Take(api.Note{Kind: api.Done, Core: 2, Line: 1}); n != nil || e != api.ErrState {
		t.Error("it was not granted yet:", n, e)
	}
	take(t, h, api.Note{Kind: api.Reply, Core: 1, Line: 1})
	if l, _ := h.Read(1); l != (api.Line{}) || !h.Busy(1) {
		t.Error("an error turned something:", l)
	}
}

func TestP12_4ReplyToSharing(t *testing.T) {
	for state, valid := range map[int]bool{api.Invalid: false, api.Sharing: true, api.Exclusive: true, api.Modified: true, 5: false, -1: false, math.MaxInt: false} {
		h := made(t, 2)
		have(t, h, api.GetM, 0)
		ask(t, h, api.GetS, 1)
		want := grant(1, api.Exclusive, api.Line{6, 6})
		if valid {
			want.State = api.Sharing
		}
		same(t, take(t, h, api.Note{Kind: api.Reply, Core: 0, Line: 1, State: state, Dirty: true, Data: api.Line{6, 6}}), want)
		if valid {
			who(t, h, -1, 0, 1)
		} else {
			who(t, h, 1)
		}
		if l, _ := h.Read(1); l != (api.Line{}) {
			t.Error(l)
		}
	}
}

func TestP12_4ReplyToInvalidWhateverItsState(t *testing.T) {
	h := made(t, 2)
	have(t, h, api.GetM, 0)
	ask(t, h, api.GetM, 1)
	same(t, take(t, h, api.Note{Kind: api.Reply, Core: 0, Line: 1, State: api.Owned, Data: api.Line{6, 6}}), grant(1, api.Modified, api.Line{}))
	who(t, h, 1)
}

func TestP12_4Done(t *testing.T) {
	h := made(t, 2)
	ask(t, h, api.GetM, 0)
	for _, n := range []api.Note{{Core: 1, Line: 1}, {Core: 0, Line: 0}} {
		n.Kind = api.Done
		if m, e := h.Take(n); m != nil || e != api.ErrState {
			t.Error(n, m, e)
		}
	}
	same(t, take(t, h, api.Note{Kind: api.Done, Core: 0, Line: 1}))
	if h.Busy(1) {
		t.Error("busy no more")
	}
	if m, e := h.Take(api.Note{Kind: api.Done, Core: 0, Line: 1}); m != nil || e != api.ErrState {
		t.Error("it came already:", m, e)
	}
}

func TestP12_5Ready(t *testing.T) {
	h := made(t, 2)
	for _, line := range []int{3, 0, 2, 2} {
		take(t, h, api.Note{Kind: api.GetS, Line: line})
	}
	h.Begin(2, &judge{})
	ready := h.Ready()
	h.Sweep(1)
	for range 2 {
		if got := slices.Collect(ready); !slices.Equal(got, []int{0, 3}) {
			t.Error(got)
		}
	}
	if got := slices.Collect(h.Ready()); !slices.Equal(got, []int{0, 1, 3}) {
		t.Error(got)
	}
	for range ready {
		break
	}
	take(t, h, api.Note{Kind: api.Done, Line: 2})
	if got := slices.Collect(h.Ready()); !slices.Equal(got, []int{0, 1, 2, 3}) {
		t.Error(got)
	}
}

func TestP12_5OfNoLine(t *testing.T) {
	h := made(t, 2)
	for _, line := range []int{-1, 4, math.MinInt, math.MaxInt} {
		_, s, e := h.Who(line)
		if len(s) != 0 || e != api.ErrRange || h.Busy(line) || h.Waits(line) != 0 || h.Sweeps(line) != 0 {
			t.Error(line, s, e)
		}
	}
}

func TestP12_5Copy(t *testing.T) {
	h := made(t, 3)
	have(t, h, api.GetM, 0)
	h.Write(0, api.Line{1, 1})
	ask(t, h, api.GetM, 1)
	take(t, h, api.Note{Kind: api.GetS, Core: 2, Line: 1})
	c := h.Copy()
	same(t, take(t, c, api.Note{Kind: api.Reply, Core: 0, Line: 1, Dirty: true, Data: api.Line{4, 4}}), grant(1, api.Modified, api.Line{4, 4}))
	take(t, c, api.Note{Kind: api.Done, Core: 1, Line: 1})
	begin(t, c)
	c.Set(0, 7)
	who(t, c, 1)
	who(t, h, 0)
	if v, _ := h.Get(0); v != 1 || h.Waits(1) != 1 || c.Waits(1) != 0 || !h.Busy(1) {
		t.Error("not of its own")
	}
	same(t, take(t, h, api.Note{Kind: api.Reply, Core: 0, Line: 1}), grant(1, api.Modified, api.Line{}))
}

func TestP12_5Nil(t *testing.T) {
	var h *home.Home
	n, e := h.Take(api.Note{})
	m, f := h.Begin(-1, nil)
	o, s, g := h.Who(0)
	if n != nil || m != nil || o != -1 || s != nil || e != api.ErrNil || f != api.ErrNil || g != api.ErrNil || h.Sweep(-1) != api.ErrNil {
		t.Error(n, m, o, s, e, f, g)
	}
	if h.Sweeps(0) != 0 || h.Busy(0) || h.Waits(0) != 0 || h.Copy() != nil || len(slices.Collect(h.Ready())) != 0 {
		t.Error("of a nil home")
	}
}

func TestP12_Example(t *testing.T) {
	h := made(t, 2)
	same(t, ask(t, h, api.GetS, 0), grant(0, api.Exclusive, api.Line{}))
	take(t, h, api.Note{Kind: api.Done, Core: 0, Line: 1})
	same(t, ask(t, h, api.GetS, 1), probe(0, api.Sharing))
	same(t, take(t, h, api.Note{Kind: api.Reply, Core: 0, Line: 1, State: api.Owned, Dirty: true, Data: api.Line{7}}), grant(1, api.Sharing, api.Line{7}))
}
