package fabric_test

import (
	"iter"
	"math"
	"math/rand"
	"slices"
	"testing"

	"donjon/api"
	"donjon/fabric"
	"donjon/note"
	"donjon/place"
)

func config(cores, depth int) place.Config {
	return place.Config{Cores: cores, Granules: 2, Sets: 1, Ways: 1, Depth: depth, Entries: 1, Banks: 1}
}

func made(t *testing.T, cores, depth int) *fabric.Fabric {
	t.Helper()
	f, e := fabric.New(config(cores, depth))
	if f == nil || e != api.OK {
		t.Fatal(f, e)
	}
	return f
}

// kinds is one kind of each lane that has a number (Data's first word tells it, where it may, else No).
var kinds = [note.Lanes]int{api.Put, api.Reply, api.Grant, api.Drop}

// tagged is a note of a core's lane, told from others by a number.
func tagged(core, lane, no int) api.Note {
	n := api.Note{Kind: kinds[lane], Core: core}
	switch lane {
	case note.Answers:
		n.State = api.Sharing
		n.Data[0] = no
	case note.Orders:
		n.No = no % 2
	default:
		n.Data[0] = no
	}
	return n
}

func TestP5_1New(t *testing.T) {
	for _, c := range []place.Config{{}, config(5, 1), config(1, 0), config(1, 17)} {
		if f, e := fabric.New(c); f != nil || e != api.ErrRange {
			t.Error(c, e)
		}
	}
	f := made(t, 3, 5)
	if f.Len() != 0 || len(slices.Collect(f.All())) != 0 {
		t.Error("there are notes")
	}
	for core := range 3 {
		for lane := range 4 {
			if f.Room(core, lane) != 5 {
				t.Error(core, lane, f.Room(core, lane))
			}
		}
	}
}

func TestP5_1Example(t *testing.T) {
	f := made(t, 2, 1)
	if e := f.Send(api.Note{Kind: api.GetS}, api.Note{Kind: api.Done}); e != api.OK {
		t.Error(e)
	}
	if e := f.Send(api.Note{Kind: api.GetM}); e != api.ErrFull {
		t.Error(e)
	}
	if e := f.Send(api.Note{Kind: api.GetM, Core: 1}); e != api.OK {
		t.Error(e)
	}
}

func TestP5_1SendByKind(t *testing.T) {
	lanes := map[int]int{api.GetS: 0, api.GetM: 0, api.Put: 0, api.Walk: 0, api.Done: 1, api.Reply: 1, api.Dropped: 1,
		api.Grant: 2, api.Nack: 2, api.PutAck: 2, api.Walked: 2, api.Probe: 3, api.Drop: 3}
	for kind, lane := range lanes {
		f := made(t, 2, 2)
		n := api.Note{Kind: kind, Core: 1}
		if kind == api.Grant {
			n.State = api.Modified
		}
		if e := f.Send(n); e != api.OK || f.Room(1, lane) != 1 || f.Len() != 1 {
			t.Error(kind, e)
		}
		if got, e := f.Take(1, lane, 0); got != n || e != api.OK {
			t.Error(kind, got, e)
		}
	}
}

func TestP5_1SendAllOrNone(t *testing.T) {
	ask, tell := api.Note{Kind: api.GetS}, api.Note{Kind: api.Done, Core: 1}
	kindless, rangeless := api.Note{Kind: 14}, api.Note{Kind: api.GetS, Core: 2}
	for i, x := range []struct {
		in   []api.Note
		want api.Errno
	}{
		{nil, api.OK},
		{[]api.Note{tell, kindless, rangeless}, api.ErrKind},
		{[]api.Note{tell, rangeless, kindless}, api.ErrRange},
		{[]api.Note{tell, ask, ask, ask}, api.ErrFull},
		{[]api.Note{ask, ask, ask, kindless}, api.ErrKind},
		{[]api.Note{ask, tell, tell, tell}, api.ErrFull},
		{[]api.Note{ask, ask, tell, tell}, api.OK},
	} {
		f := made(t, 2, 2)
		if e := f.Send(x.in...); e != x.want {
			t.Error(i, e)
		}
		want := len(x.in)
		if x.want != api.OK {
			want = 0
		}
		if f.Len() != want {
			t.Error(i, "an error sent", f.Len())
		}
	}
}

func TestP5_1SendKeepsOrder(t *testing.T) {
	f := made(t, 1, 4)
	f.Send(tagged(0, 0, 1), tagged(0, 1, 2), tagged(0, 0, 3))
	f.Send(tagged(0, 0, 4))
	var got []int
	for n := range f.Lane(0, 0) {
		got = append(got, n.Data[0])
	}
	if !slices.Equal(got, []int{1, 3, 4}) {
		t.Error(got)
	}
}

func TestP5_1Take(t *testing.T) {
	f := made(t, 2, 3)
	f.Send(tagged(1, 0, 1), tagged(1, 0, 2), tagged(1, 0, 3))
	for _, x := range [][2]int{{-1, 0}, {2, 0}, {0, -1}, {0, 4}, {math.MaxInt, math.MaxInt}, {math.MinInt, math.MinInt}} {
		if n, e := f.Take(x[0], x[1], 0); n != (api.Note{}) || e != api.ErrRange {
			t.Error(x, n, e)
		}
	}
	if n, e := f.Take(0, 0, 0); n != (api.Note{}) || e != api.ErrNone {
		t.Error(n, e)
	}
	for which, want := range map[int]int{-1: 3, 4: 2, math.MinInt: 1 + (math.MinInt%3+3)%3} {
		if n, e := f.Copy().Take(1, 0, which); n != tagged(1, 0, want) || e != api.OK {
			t.Error(which, n, e)
		}
	}
	if f.Len() != 3 {
		t.Error(f.Len())
	}
}

func collect(s iter.Seq[api.Note]) []api.Note { return slices.Collect(s) }

func TestP5_2AllAndLane(t *testing.T) {
	f := made(t, 2, 2)
	want := []api.Note{tagged(0, 0, 1), tagged(0, 0, 2), tagged(0, 2, 3), tagged(0, 3, 4), tagged(1, 1, 5), tagged(1, 2, 6)}
	if e := f.Send(want[5], want[4], want[3], want[0], want[2], want[1]); e != api.OK {
		t.Fatal(e)
	}
	all, lane, none := f.All(), f.Lane(0, 0), f.Lane(0, 1)
	f.Take(0, 0, 0)
	f.Send(tagged(0, 1, 9))
	for range 2 {
		if got := collect(all); !slices.Equal(got, want) {
			t.Error(got)
		}
		if got := collect(lane); !slices.Equal(got, want[:2]) || len(collect(none)) != 0 {
			t.Error(got)
		}
	}
	for i := range want {
		n := 0
		for range all {
			if n == i {
				break
			}
			n++
		}
	}
	for _, x := range [][2]int{{-1, 0}, {2, 0}, {0, -1}, {0, 4}, {math.MinInt, math.MaxInt}} {
		if f.Room(x[0], x[1]) != 0 || len(collect(f.Lane(x[0], x[1]))) != 0 {
			t.Error(x)
		}
	}
}

func TestP5_2Copy(t *testing.T) {
	f := made(t, 2, 2)
	f.Send(tagged(0, 0, 1), tagged(1, 2, 2))
	c := f.Copy()
	if !slices.Equal(collect(f.All()), collect(c.All())) || c.Len() != 2 || c.Room(0, 0) != 1 {
		t.Error("not the same")
	}
	c.Send(tagged(0, 0, 3))
	f.Take(1, 2, 0)
	if f.Len() != 1 || c.Len() != 3 || f.Room(0, 0) != 1 || c.Room(1, 2) != 1 {
		t.Error("not of its own")
	}
}

func TestP5_2Nil(t *testing.T) {
	var f *fabric.Fabric
	n, e := f.Take(-1, 9, 0)
	if n != (api.Note{}) || e != api.ErrNil || f.Send() != api.ErrNil || f.Send(api.Note{}) != api.ErrNil {
		t.Error(n, e)
	}
	if f.Room(0, 0) != 0 || f.Len() != 0 || f.Copy() != nil || len(collect(f.All())) != 0 || len(collect(f.Lane(0, 0))) != 0 {
		t.Error("of a nil fabric")
	}
}

func TestP5_3NotesAreTakenOnceFromTheirLane(t *testing.T) {
	for seed := range int64(50) {
		r := rand.New(rand.NewSource(seed))
		cores, depth := 1+r.Intn(4), 1+r.Intn(5)
		f := made(t, cores, depth)
		var want [4][4][]api.Note
		for step := range 400 {
			core, lane := r.Intn(cores), r.Intn(4)
			row := &want[core][lane]
			if r.Intn(2) == 0 {
				n := tagged(core, lane, step)
				e := f.Send(n)
				if (e == api.OK) != (len(*row) < depth) {
					t.Fatal(seed, e)
				}
				if e == api.OK {
					*row = append(*row, n)
				}
			} else if len(*row) > 0 {
				at := r.Intn(len(*row))
				if n, e := f.Take(core, lane, at-len(*row)); n != (*row)[at] || e != api.OK {
					t.Fatal(seed, n, e)
				}
				*row = slices.Delete(*row, at, at+1)
			}
			var all []api.Note
			for c := range cores {
				for l := range 4 {
					all = append(all, want[c][l]...)
				}
			}
			if !slices.Equal(collect(f.All()), all) || f.Len() != len(all) {
				t.Fatal(seed, "not all are there")
			}
		}
	}
}
