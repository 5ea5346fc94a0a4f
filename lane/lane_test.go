package lane_test

import (
	"math"
	"math/rand"
	"slices"
	"testing"

	"donjon/api"
	"donjon/lane"
)

// no is a note that is told from others by its number.
func no(n int) api.Note { return api.Note{Kind: api.Walk, No: n} }

// filled is a lane with notes of these numbers.
func filled(t *testing.T, depth int, numbers ...int) *lane.Lane {
	t.Helper()
	l, e := lane.New(depth)
	if l == nil || e != api.OK {
		t.Fatal(depth, e)
	}
	for _, n := range numbers {
		if e := l.Put(no(n)); e != api.OK {
			t.Fatal(e)
		}
	}
	return l
}

func numbers(l *lane.Lane) []int {
	var out []int
	for n := range l.All() {
		out = append(out, n.No)
	}
	return out
}

func TestP4_1New(t *testing.T) {
	for _, depth := range []int{0, -1, 17, math.MinInt, math.MaxInt} {
		if l, e := lane.New(depth); l != nil || e != api.ErrRange {
			t.Error(depth, l, e)
		}
	}
	for depth := 1; depth <= 16; depth++ {
		if l := filled(t, depth); l.Len() != 0 || l.Room() != depth || len(numbers(l)) != 0 {
			t.Error(depth)
		}
	}
}

func TestP4_1Put(t *testing.T) {
	l := filled(t, 3)
	if l.Put() != api.OK || l.Put(no(1), no(2)) != api.OK {
		t.Error("there is room")
	}
	if l.Put(no(3), no(4)) != api.ErrFull || !slices.Equal(numbers(l), []int{1, 2}) {
		t.Error("none is put, if there is no room for all:", numbers(l))
	}
	if l.Put(no(5)) != api.OK || l.Put(no(6)) != api.ErrFull || l.Put() != api.OK || !slices.Equal(numbers(l), []int{1, 2, 5}) {
		t.Error(numbers(l))
	}
	full := filled(t, 16)
	if full.Put(make([]api.Note, 17)...) != api.ErrFull || full.Put(make([]api.Note, 16)...) != api.OK || full.Room() != 0 {
		t.Error("16 is the most")
	}
}

func TestP4_1PutKeepsNothingOfWhatIsHandedIn(t *testing.T) {
	l := filled(t, 4)
	in := []api.Note{no(1), no(2), no(3)}
	l.Put(in[:2]...)
	l.Put(no(9))
	in[0] = no(7)
	if !slices.Equal(numbers(l), []int{1, 2, 9}) || in[2] != no(3) {
		t.Error(numbers(l), in)
	}
}

func TestP4_1Take(t *testing.T) {
	for which, want := range map[int]int{0: 10, 1: 11, 2: 12, 3: 10, 7: 11, -1: 12, -2: 11, -3: 10, -4: 12, math.MaxInt: 10 + math.MaxInt%3, math.MinInt: 10 + (math.MinInt%3+3)%3} {
		l := filled(t, 5, 10, 11, 12)
		n, e := l.Take(which)
		left := slices.DeleteFunc([]int{10, 11, 12}, func(x int) bool { return x == want })
		if n != no(want) || e != api.OK || !slices.Equal(numbers(l), left) || l.Len() != 2 || l.Room() != 3 {
			t.Error(which, n, e, numbers(l))
		}
	}
	if n, e := filled(t, 1).Take(0); n != (api.Note{}) || e != api.ErrNone {
		t.Error(n, e)
	}
}

func TestP4_1Example(t *testing.T) {
	l := filled(t, 2)
	if l.Put(no(1), no(2)) != api.OK || l.Put(no(3)) != api.ErrFull {
		t.Error("a, b")
	}
	if n, e := l.Take(-1); n != no(2) || e != api.OK {
		t.Error(n, e)
	}
	if l.Put(no(3)) != api.OK {
		t.Error("c")
	}
	if n, e := l.Take(2); n != no(1) || e != api.OK {
		t.Error(n, e)
	}
}

func TestP4_2All(t *testing.T) {
	l := filled(t, 4, 1, 2, 3)
	all := l.All()
	l.Take(0)
	l.Put(no(4))
	for range 2 {
		var got []int
		for n := range all {
			got = append(got, n.No)
			l.Take(0)
		}
		if !slices.Equal(got, []int{1, 2, 3}) {
			t.Error(got)
		}
	}
	for range filled(t, 2, 1, 2).All() {
		break
	}
}

func TestP4_2Copy(t *testing.T) {
	l := filled(t, 3, 1, 2)
	c := l.Copy()
	if !slices.Equal(numbers(c), []int{1, 2}) || c.Room() != 1 || c.Len() != 2 {
		t.Error(numbers(c))
	}
	c.Put(no(3))
	c.Take(0)
	l.Put(no(4))
	if !slices.Equal(numbers(l), []int{1, 2, 4}) || !slices.Equal(numbers(c), []int{2, 3}) {
		t.Error(numbers(l), numbers(c))
	}
}

func TestP4_2Nil(t *testing.T) {
	var l *lane.Lane
	if n, e := l.Take(0); n != (api.Note{}) || e != api.ErrNil {
		t.Error(n, e)
	}
	if l.Put() != api.ErrNil || l.Put(no(1)) != api.ErrNil || l.Len() != 0 || l.Room() != 0 || l.Copy() != nil || len(numbers(l)) != 0 {
		t.Error("of a nil lane")
	}
}

func TestP4_3NotesAreTakenOnceOrThere(t *testing.T) {
	for seed := range int64(100) {
		r := rand.New(rand.NewSource(seed))
		depth := 1 + r.Intn(16)
		l := filled(t, depth)
		var want []int
		next := 0
		for range 300 {
			if r.Intn(2) == 0 {
				in := make([]api.Note, r.Intn(4))
				for i := range in {
					in[i] = no(next + i)
				}
				if e := l.Put(in...); (e == api.OK) != (len(want)+len(in) <= depth) {
					t.Fatal(seed, e)
				} else if e == api.OK {
					for range in {
						want = append(want, next)
						next++
					}
				}
			} else if len(want) > 0 {
				which := r.Intn(100) - 50
				at := ((which % len(want)) + len(want)) % len(want)
				if n, e := l.Take(which); n.No != want[at] || e != api.OK {
					t.Fatal(seed, which, n.No, want[at], e)
				}
				want = slices.Delete(want, at, at+1)
			}
			if !slices.Equal(numbers(l), want) || l.Len() != len(want) || l.Room() != depth-len(want) {
				t.Fatal(seed, numbers(l), want)
			}
		}
	}
}
