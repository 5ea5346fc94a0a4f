package cache_test

import (
	"math"
	"slices"
	"testing"

	"donjon/api"
	"donjon/cache"
	"donjon/place"
)

// config has 3 granules, 6 lines.
func config(cores, sets, ways int) place.Config {
	return place.Config{Cores: cores, Granules: 3, Sets: sets, Ways: ways, Depth: 1, Entries: 1, Banks: 1}
}

// made is the cache of the core 1.
func made(t *testing.T, sets, ways int) *cache.Cache {
	t.Helper()
	c, e := cache.New(config(2, sets, ways), 1)
	if c == nil || e != api.OK {
		t.Fatal(e)
	}
	return c
}

// lay puts a copy of World 2 there.
func lay(t *testing.T, c *cache.Cache, line, state int) {
	t.Helper()
	if e := c.Put(line, cache.Copy{State: state, World: 2, Data: data(line)}); e != api.OK {
		t.Fatal(line, e)
	}
}

func data(line int) api.Line { return api.Line{10 * line, 10*line + 1} }

// fetch is a line that is asked for, and granted.
func fetch(t *testing.T, c *cache.Cache, line, state int) {
	t.Helper()
	want(t, c, line, state == api.Modified)
	same(t, take(t, c, api.Note{Kind: api.Grant, Line: line, World: 2, State: state, Data: data(line)}), api.Note{Kind: api.Done, Core: 1, Line: line})
}

func want(t *testing.T, c *cache.Cache, line int, write bool) []api.Note {
	t.Helper()
	n, e := c.Want(line, 2, write)
	if e != api.OK {
		t.Fatal(line, e)
	}
	return n
}

func take(t *testing.T, c *cache.Cache, n api.Note) []api.Note {
	t.Helper()
	out, e := c.Take(n)
	if e != api.OK {
		t.Fatal(n, e)
	}
	return out
}

func same(t *testing.T, got []api.Note, want ...api.Note) {
	t.Helper()
	if !slices.Equal(got, want) {
		t.Errorf("notes %+v, not %+v", got, want)
	}
}

// victim holds that a line's set is full, and which copy would have to go.
func victim(t *testing.T, c *cache.Cache, line, want int) {
	t.Helper()
	if v, is, e := c.Victim(line); v != want || !is || e != api.OK {
		t.Error("victim", v, is, e, "not", want)
	}
}

func TestP13_1New(t *testing.T) {
	wrong := config(2, 9, 1)
	if c, e := cache.New(wrong, -1); c != nil || e != api.ErrRange {
		t.Error(e)
	}
	deep, bare := config(2, 1, 1), config(2, 1, 1)
	deep.Depth, bare.Banks = 17, 0
	for _, wrong := range []place.Config{{}, deep, bare} {
		if c, e := cache.New(wrong, 0); c != nil || e != api.ErrRange {
			t.Error(wrong, e)
		}
	}
	for _, core := range []int{-1, 2, math.MinInt, math.MaxInt} {
		if c, e := cache.New(config(2, 1, 1), core); c != nil || e != api.ErrRange {
			t.Error(core, e)
		}
	}
	c := made(t, 2, 2)
	_, _, asked := c.Asked()
	_, going := c.Going()
	if c.Len() != 0 || asked || going {
		t.Error("it has something")
	}
}

func TestP13_1May(t *testing.T) {
	for state, x := range map[int][2]bool{api.Sharing: {true, false}, api.Exclusive: {true, true}, api.Owned: {true, false}, api.Modified: {true, true}} {
		c := made(t, 1, 2)
		lay(t, c, 3, state)
		if c.May(3, 2, false) != x[0] || c.May(3, 2, true) != x[1] {
			t.Error(state)
		}
		for _, no := range [][2]int{{3, 1}, {3, 0}, {3, 4}, {2, 2}, {-1, 2}, {math.MaxInt, 2}} {
			if c.May(no[0], no[1], false) || c.May(no[0], no[1], true) {
				t.Error(state, no)
			}
		}
	}
}

func TestP13_1ReadAndWrite(t *testing.T) {
	c := made(t, 1, 2)
	lay(t, c, 3, api.Exclusive)
	lay(t, c, 4, api.Sharing)
	for at := range 2 {
		if v, e := c.Read(3, at, 2); v != 30+at || e != api.OK {
			t.Error(v, e)
		}
	}
	victim(t, c, 0, 4)
	if v, e := c.Read(4, 1, 2); v != 41 || e != api.OK {
		t.Error(v, e)
	}
	victim(t, c, 0, 3)
	if e := c.Write(3, 1, 2, -5); e != api.OK {
		t.Error(e)
	}
	victim(t, c, 0, 4)
	if x, _ := c.Peek(3); x != (cache.Copy{State: api.Modified, World: 2, Data: api.Line{30, -5}}) {
		t.Error(x)
	}
	if e := c.Write(3, 0, 2, 8); e != api.OK {
		t.Error(e)
	}
	if x, _ := c.Peek(3); x != (cache.Copy{State: api.Modified, World: 2, Data: api.Line{8, -5}}) {
		t.Error(x)
	}
}

func TestP13_1ReadAndWriteErrors(t *testing.T) {
	c := made(t, 1, 4)
	lay(t, c, 3, api.Owned)
	lay(t, c, 4, api.Modified)
	lay(t, c, 6, api.Modified) // no line of the configuration
	for _, x := range []struct {
		line, at, owner int
		read, write     api.Errno
	}{
		{-1, 0, 2, api.ErrRange, api.ErrRange},
		{6, 0, 2, api.ErrRange, api.ErrRange},
		{math.MaxInt, 0, 2, api.ErrRange, api.ErrRange},
		{4, -1, 2, api.ErrRange, api.ErrRange},
		{4, 2, 2, api.ErrRange, api.ErrRange},
		{4, math.MinInt, 1, api.ErrRange, api.ErrRange},
		{4, 0, 1, api.ErrState, api.ErrState},
		{5, 0, 2, api.ErrState, api.ErrState},
		{3, 0, 2, api.OK, api.ErrState},
	} {
		v, e := c.Read(x.line, x.at, x.owner)
		if e != x.read || e != api.OK && v != 0 {
			t.Error(x, v, e)
		}
		if e := c.Write(x.line, x.at, x.owner, 9); e != x.write {
			t.Error(x, e)
		}
	}
	if x, _ := c.Peek(3); x.Data != data(3) || x.State != api.Owned {
		t.Error(x)
	}
	if x, _ := c.Peek(4); x.Data != data(4) {
		t.Error(x)
	}
}

func TestP13_1AnErrorIsNoUse(t *testing.T) {
	c := made(t, 1, 2)
	lay(t, c, 3, api.Owned)
	lay(t, c, 4, api.Sharing)
	c.Write(3, 0, 2, 9)
	c.Read(3, 0, 1)
	c.Read(3, 2, 2)
	c.May(3, 2, false)
	victim(t, c, 0, 3)
}

func TestP13_2WantErrors(t *testing.T) {
	c := made(t, 1, 1)
	for _, line := range []int{-1, 6, math.MinInt, math.MaxInt} {
		if n, e := c.Want(line, 1, false); n != nil || e != api.ErrRange {
			t.Error(line, n, e)
		}
	}
	fetch(t, c, 0, api.Modified)
	want(t, c, 1, false) // 0 goes back
	for line, e := range map[int]api.Errno{6: api.ErrRange, 0: api.ErrBusy, 1: api.ErrBusy, 2: api.ErrBusy} {
		if n, f := c.Want(line, 1, false); n != nil || f != e {
			t.Error(line, n, f)
		}
	}
	take(t, c, api.Note{Kind: api.Nack, Line: 1})
	if n, e := c.Want(0, 1, true); n != nil || e != api.ErrState {
		t.Error("that line goes back:", n, e)
	}
	fetch(t, c, 1, api.Sharing) // there is room
	if n, e := c.Want(1, 3, false); n != nil || e != api.ErrThere {
		t.Error(n, e)
	}
	if n, e := c.Want(2, 1, false); n != nil || e != api.ErrFull {
		t.Error("another one would have to go back:", n, e)
	}
	if _, is, _ := c.Victim(2); !is || c.Len() != 1 {
		t.Error("an error turned something")
	}
	if _, _, is := c.Asked(); is {
		t.Error("it asked")
	}
	same(t, want(t, c, 1, true), api.Note{Kind: api.GetM, Core: 1, Line: 1, World: 2})
}

func TestP13_2WantThere(t *testing.T) {
	for state, x := range map[int][2]api.Errno{api.Sharing: {api.ErrThere, api.OK}, api.Exclusive: {api.ErrThere, api.ErrThere}, api.Owned: {api.ErrThere, api.OK}, api.Modified: {api.ErrThere, api.ErrThere}} {
		for i, write := range []bool{false, true} {
			c := made(t, 1, 1)
			lay(t, c, 3, state)
			n, e := c.Want(3, 1, write)
			if e != x[i] {
				t.Error(state, write, e)
			}
			if e == api.OK {
				same(t, n, api.Note{Kind: api.GetM, Core: 1, Line: 3, World: 1})
				if _, is := c.Going(); is || c.Len() != 1 {
					t.Error("a copy of the line itself does not go back")
				}
			}
		}
	}
}

func TestP13_2WantLetsTheVictimGoBack(t *testing.T) {
	for state, dirty := range map[int]bool{api.Sharing: false, api.Exclusive: false, api.Owned: true, api.Modified: true} {
		c := made(t, 2, 2)
		lay(t, c, 2, api.Sharing)
		lay(t, c, 4, state)
		c.Read(2, 0, 2)
		same(t, want(t, c, 1, true), api.Note{Kind: api.GetM, Core: 1, Line: 1, World: 2})
		take(t, c, api.Note{Kind: api.Nack, Line: 1})
		n, e := c.Want(0, -9, false)
		same(t, n, api.Note{Kind: api.Put, Core: 1, Line: 4, World: 2, Data: data(4), Dirty: dirty}, api.Note{Kind: api.GetS, Core: 1, Line: 0, World: -9})
		if _, f := c.Peek(4); e != api.OK || f != api.ErrNone || c.Len() != 1 {
			t.Error(state, e, f)
		}
		if line, is := c.Going(); line != 4 || !is {
			t.Error(line, is)
		}
		if line, write, is := c.Asked(); line != 0 || write || !is {
			t.Error(line, write, is)
		}
	}
}

func TestP13_3TakeErrors(t *testing.T) {
	c := made(t, 1, 1)
	for _, kind := range []int{0, -1, 14, api.GetS, api.GetM, api.Put, api.Done, api.Reply, api.Walk, api.Dropped, api.Walked, api.Drop, math.MinInt, math.MaxInt} {
		if n, e := c.Take(api.Note{Kind: kind, Line: -1}); n != nil || e != api.ErrKind {
			t.Error(kind, n, e)
		}
	}
	for kind, e := range map[int]api.Errno{api.Grant: api.ErrState, api.Nack: api.ErrState, api.PutAck: api.ErrNone} {
		for _, line := range []int{-1, 6, math.MinInt, math.MaxInt} {
			if n, f := c.Take(api.Note{Kind: kind, Line: line}); n != nil || f != api.ErrRange {
				t.Error(kind, line, n, f)
			}
		}
		if n, f := c.Take(api.Note{Kind: kind, Line: 2}); n != nil || f != e {
			t.Error(kind, n, f)
		}
	}
	want(t, c, 1, false)
	for kind, e := range map[int]api.Errno{api.Grant: api.ErrState, api.Nack: api.ErrState, api.PutAck: api.ErrNone} {
		if n, f := c.Take(api.Note{Kind: kind, Line: 2}); n != nil || f != e {
			t.Error("of another line:", kind, n, f)
		}
	}
	if _, _, is := c.Asked(); !is {
		t.Error("an error turned something")
	}
}

func TestP13_3Grant(t *testing.T) {
	c := made(t, 1, 2)
	lay(t, c, 5, api.Sharing)
	want(t, c, 3, false)
	n := take(t, c, api.Note{Kind: api.Grant, Core: 77, Line: 3, World: 4, State: api.Exclusive, Data: api.Line{1, 2}})
	same(t, n, api.Note{Kind: api.Done, Core: 1, Line: 3})
	if x, _ := c.Peek(3); x != (cache.Copy{State: api.Exclusive, World: 4, Data: api.Line{1, 2}}) {
		t.Error(x)
	}
	if _, _, is := c.Asked(); is {
		t.Error("it asked for none any more")
	}
	want(t, c, 5, true)
	take(t, c, api.Note{Kind: api.Grant, Line: 5, World: 1, State: api.Modified, Data: api.Line{8, 8}})
	if x, _ := c.Peek(5); x != (cache.Copy{State: api.Modified, World: 1, Data: data(5)}) {
		t.Error("the data of the copy that it had:", x)
	}
	victim(t, c, 0, 3)
	if n, e := c.Take(api.Note{Kind: api.Grant, Line: 5}); n != nil || e != api.ErrState {
		t.Error(n, e)
	}
}

func TestP13_3GrantToAFullSet(t *testing.T) {
	c := made(t, 1, 1)
	want(t, c, 3, true)
	lay(t, c, 5, api.Sharing)
	if n, e := c.Take(api.Note{Kind: api.Grant, Line: 3, State: api.Modified}); n != nil || e != api.ErrFull {
		t.Error(n, e)
	}
	if line, write, is := c.Asked(); line != 3 || !write || !is || c.Len() != 1 {
		t.Error("nothing is done:", line, write, is)
	}
}

func TestP13_3GrantWhateverItTells(t *testing.T) {
	for _, state := range []int{math.MinInt, -1, 0, 3, 5, math.MaxInt} {
		c := made(t, 1, 1)
		want(t, c, 3, false)
		take(t, c, api.Note{Kind: api.Grant, Line: 3, World: -3, State: state})
		if x, _ := c.Peek(3); x != (cache.Copy{State: state, World: -3}) {
			t.Error(x)
		}
		for _, to := range []int{api.Invalid, api.Sharing} { // ends, and does not panic
			c.Take(api.Note{Kind: api.Probe, Line: 3, State: to})
		}
		c.May(3, -3, true)
		c.Read(3, 0, -3)
		c.Write(3, 0, -3, 1)
		c.Want(4, 0, true)
	}
}

func TestP13_3NackAndPutAck(t *testing.T) {
	c := made(t, 1, 1)
	fetch(t, c, 2, api.Exclusive)
	want(t, c, 1, false)
	same(t, take(t, c, api.Note{Kind: api.Nack, Line: 1, No: 1}))
	if _, _, is := c.Asked(); is {
		t.Error("it asked for none any more")
	}
	if n, e := c.Take(api.Note{Kind: api.PutAck, Line: 1}); n != nil || e != api.ErrNone {
		t.Error(n, e)
	}
	same(t, take(t, c, api.Note{Kind: api.PutAck, Line: 2}))
	if line, is := c.Going(); line != 0 || is {
		t.Error("none goes back any more")
	}
	want(t, c, 2, false)
}

func TestP13_3ProbeOfACopy(t *testing.T) {
	for state, x := range map[int]struct {
		shared       int
		tells, dirty bool
	}{api.Sharing: {api.Sharing, false, false}, api.Exclusive: {api.Sharing, true, false}, api.Owned: {api.Owned, true, true}, api.Modified: {api.Owned, true, true}} {
		for _, to := range []int{api.Sharing, api.Invalid} {
			c := made(t, 1, 2)
			lay(t, c, 3, state)
			lay(t, c, 4, api.Sharing)
			r := api.Note{Kind: api.Reply, Core: 1, Line: 3, Dirty: x.dirty}
			if to == api.Sharing {
				r.State = x.shared
			}
			if x.tells {
				r.Data = data(3)
			}
			same(t, take(t, c, api.Note{Kind: api.Probe, Core: -4, Line: 3, State: to}), r)
			got, e := c.Peek(3)
			if to == api.Invalid {
				if e != api.ErrNone || c.Len() != 1 {
					t.Error(got, e)
				}
				continue
			}
			if got != (cache.Copy{State: x.shared, World: 2, Data: data(3)}) {
				t.Error(got)
			}
			victim(t, c, 0, 4)
		}
	}
}

func TestP13_3ProbeOfWhatGoesBack(t *testing.T) {
	none := api.Note{Kind: api.Reply, Core: 1, Line: 2}
	c := made(t, 1, 1)
	fetch(t, c, 2, api.Modified)
	want(t, c, 1, false)
	r := api.Note{Kind: api.Reply, Core: 1, Line: 2, State: api.Owned, Data: data(2), Dirty: true}
	for range 2 {
		same(t, take(t, c, api.Note{Kind: api.Probe, Line: 2, State: api.Sharing}), r)
	}
	r.State = api.Invalid
	same(t, take(t, c, api.Note{Kind: api.Probe, Line: 2, State: api.Invalid}), r)
	same(t, take(t, c, api.Note{Kind: api.Probe, Line: 2, State: api.Invalid}), none)
	same(t, take(t, c, api.Note{Kind: api.Probe, Line: 2, State: api.Sharing}), none)
	if line, is := c.Going(); line != 2 || !is {
		t.Error("it is kept till the PutAck")
	}
	take(t, c, api.Note{Kind: api.PutAck, Line: 2})
	same(t, take(t, c, api.Note{Kind: api.Probe, Line: 2, State: api.Sharing}), none)
	if c.Len() != 0 {
		t.Error("a probe lays nothing there")
	}
}

func TestP13_3ProbeOfNoneWhileAnotherGoesBack(t *testing.T) {
	c := made(t, 1, 1)
	fetch(t, c, 2, api.Modified)
	want(t, c, 1, false)
	for line := range 6 {
		if line == 2 {
			continue
		}
		for _, to := range []int{api.Invalid, api.Sharing} {
			same(t, take(t, c, api.Note{Kind: api.Probe, Line: line, State: to}), api.Note{Kind: api.Reply, Core: 1, Line: line})
		}
	}
	same(t, take(t, c, api.Note{Kind: api.Probe, Line: 2, State: api.Sharing}), api.Note{Kind: api.Reply, Core: 1, Line: 2, State: api.Owned, Data: data(2), Dirty: true})
}

func TestP13_3ProbeErrors(t *testing.T) {
	c := made(t, 1, 1)
	lay(t, c, 3, api.Modified)
	for _, line := range []int{3, 4} {
		for _, state := range []int{-1, api.Exclusive, api.Owned, api.Modified, 5, math.MinInt, math.MaxInt} {
			if n, e := c.Take(api.Note{Kind: api.Probe, Line: line, State: state}); n != nil || e != api.ErrRange {
				t.Error(state, n, e)
			}
		}
	}
	if x, _ := c.Peek(3); x.State != api.Modified {
		t.Error(x)
	}
	for _, line := range []int{-1, 6} {
		if n, e := c.Take(api.Note{Kind: api.Probe, Line: line, State: 9}); n != nil || e != api.ErrRange {
			t.Error(line, n, e)
		}
	}
}

func TestP13_4Twin(t *testing.T) {
	c := made(t, 1, 1)
	fetch(t, c, 2, api.Modified)
	want(t, c, 1, true)
	d := c.Twin()
	take(t, d, api.Note{Kind: api.Grant, Line: 1, World: 2, State: api.Modified})
	take(t, d, api.Note{Kind: api.PutAck, Line: 2})
	if line, write, is := c.Asked(); line != 1 || !write || !is || c.Len() != 0 {
		t.Error(line, write, is)
	}
	if line, is := c.Going(); line != 2 || !is {
		t.Error(line, is)
	}
	take(t, c, api.Note{Kind: api.Grant, Line: 1, World: 2, State: api.Modified, Data: api.Line{5, 5}})
	d.Write(1, 0, 2, 7)
	if x, _ := c.Peek(1); x.Data != (api.Line{5, 5}) {
		t.Error("the twin is not of its own:", x)
	}
}

func TestP13_4Nil(t *testing.T) {
	var c *cache.Cache
	v, e := c.Read(-1, 0, 0)
	n, f := c.Want(-1, 0, false)
	m, g := c.Take(api.Note{})
	if v != 0 || n != nil || m != nil || e != api.ErrNil || f != api.ErrNil || g != api.ErrNil || c.Write(-1, 0, 0, 0) != api.ErrNil {
		t.Error(v, n, m, e, f, g)
	}
	line, write, is := c.Asked()
	back, going := c.Going()
	if line != 0 || write || is || back != 0 || going || c.Twin() != nil || c.May(0, 0, false) {
		t.Error("of a nil cache")
	}
}

func TestP13_Example(t *testing.T) {
	c := made(t, 1, 1)
	same(t, want(t, c, 0, false), api.Note{Kind: api.GetS, Core: 1, World: 2})
	same(t, take(t, c, api.Note{Kind: api.Grant, World: 2, State: api.Exclusive}), api.Note{Kind: api.Done, Core: 1})
	if e := c.Write(0, 1, 2, 6); e != api.OK {
		t.Error(e)
	}
	same(t, want(t, c, 1, false), api.Note{Kind: api.Put, Core: 1, World: 2, Data: api.Line{0, 6}, Dirty: true}, api.Note{Kind: api.GetS, Core: 1, Line: 1, World: 2})
	same(t, take(t, c, api.Note{Kind: api.Probe, State: api.Sharing}), api.Note{Kind: api.Reply, Core: 1, State: api.Owned, Data: api.Line{0, 6}, Dirty: true})
}
