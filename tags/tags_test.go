package tags_test

import (
	"maps"
	"math"
	"math/rand"
	"slices"
	"testing"

	"donjon/api"
	"donjon/tags"
)

func made(t *testing.T, sets, ways int) *tags.Cache[string] {
	t.Helper()
	c, e := tags.New[string](sets, ways)
	if c == nil || e != api.OK {
		t.Fatal(sets, ways, e)
	}
	return c
}

// put puts things that must have room.
func put(t *testing.T, c *tags.Cache[string], numbers ...int) {
	t.Helper()
	for _, no := range numbers {
		if e := c.Put(no, name(no)); e != api.OK {
			t.Fatal(no, e)
		}
	}
}

func name(no int) string { return "n" + string(rune('a'+no%26)) }

func numbers(c *tags.Cache[string]) []int {
	var out []int
	for no := range c.All() {
		out = append(out, no)
	}
	return out
}

func TestP7_1New(t *testing.T) {
	for _, x := range [][2]int{{0, 1}, {1, 0}, {-1, 1}, {1, -1}, {9, 1}, {1, 5}, {math.MaxInt, 1}, {1, math.MinInt}} {
		if c, e := tags.New[int](x[0], x[1]); c != nil || e != api.ErrRange {
			t.Error(x, e)
		}
	}
	for sets := 1; sets <= 8; sets++ {
		for ways := 1; ways <= 4; ways++ {
			if c := made(t, sets, ways); c.Len() != 0 || len(numbers(c)) != 0 {
				t.Error(sets, ways)
			}
		}
	}
}

func TestP7_1Examples(t *testing.T) {
	c := made(t, 2, 1)
	put(t, c, 1, 2)
	if e := c.Put(3, "x"); e != api.ErrFull {
		t.Error(e)
	}
	if v, is, e := c.Victim(3); v != 1 || !is || e != api.OK {
		t.Error(v, is, e)
	}
	c = made(t, 2, 2)
	put(t, c, 1, 3)
	if v, e := c.Get(1); v != name(1) || e != api.OK {
		t.Error(v, e)
	}
	if v, is, e := c.Victim(5); v != 3 || !is || e != api.OK {
		t.Error(v, is, e)
	}
}

func TestP7_1NumbersBelowZero(t *testing.T) {
	c := made(t, 3, 2)
	put(t, c, 0, 1, 2)
	for _, no := range []int{-1, -2, math.MinInt} {
		v, e := c.Get(no)
		w, f := c.Peek(no)
		x, g := c.Drop(no)
		n, is, h := c.Victim(no)
		if v != "" || w != "" || x != "" || n != 0 || is || e != api.ErrRange || f != api.ErrRange || g != api.ErrRange || h != api.ErrRange || c.Put(no, "x") != api.ErrRange {
			t.Error(no, v, w, x, n, is, e, f, g, h)
		}
	}
	if !slices.Equal(numbers(c), []int{0, 1, 2}) {
		t.Error(numbers(c))
	}
}

func TestP7_1WhatIsUsedIsTheLastOne(t *testing.T) {
	uses := map[string]func(c *tags.Cache[string]){
		"get": func(c *tags.Cache[string]) { c.Get(0) },
		"put": func(c *tags.Cache[string]) { c.Put(0, "new") },
	}
	for what, use := range uses {
		c := made(t, 1, 3)
		put(t, c, 0, 1, 2)
		use(c)
		if v, is, _ := c.Victim(7); v != 1 || !is {
			t.Error(what, v)
		}
	}
	c := made(t, 1, 3)
	put(t, c, 0, 1, 2)
	if v, e := c.Peek(0); v != name(0) || e != api.OK {
		t.Error(v, e)
	}
	c.Victim(7)
	c.Put(7, "full")
	c.Put(-1, "none")
	for range c.All() {
	}
	if v, is, _ := c.Victim(7); v != 0 || !is {
		t.Error("these are no uses:", v)
	}
	c.Put(0, "again")
	if v, e := c.Peek(0); v != "again" || e != api.OK || c.Len() != 3 {
		t.Error(v, e)
	}
}

func TestP7_1DropAndNone(t *testing.T) {
	c := made(t, 2, 2)
	put(t, c, 4, 6, 5)
	if v, e := c.Drop(4); v != name(4) || e != api.OK || !slices.Equal(numbers(c), []int{5, 6}) {
		t.Error(v, e, numbers(c))
	}
	for _, no := range []int{4, 0, 2, 100, math.MaxInt} {
		v, e := c.Get(no)
		w, f := c.Peek(no)
		x, g := c.Drop(no)
		if v != "" || w != "" || x != "" || e != api.ErrNone || f != api.ErrNone || g != api.ErrNone {
			t.Error(no, v, w, x, e, f, g)
		}
	}
	put(t, c, 8)
	if v, is, _ := c.Victim(0); v != 6 || !is {
		t.Error("what was dropped leaves room, and order:", v)
	}
}

func TestP7_2Victim(t *testing.T) {
	c := made(t, 2, 2)
	put(t, c, 1, 3, 0)
	for _, no := range []int{1, 3, 0, 2, 4} { // there, or with room
		if v, is, e := c.Victim(no); v != 0 || is || e != api.OK {
			t.Error(no, v, is, e)
		}
	}
	if v, is, e := c.Victim(math.MaxInt); v != 1 || !is || e != api.OK {
		t.Error(v, is, e)
	}
}

func TestP7_2All(t *testing.T) {
	c := made(t, 3, 4)
	put(t, c, 9, 4, 2, 0, 7, 3, 1)
	all := c.All()
	c.Drop(4)
	c.Put(9, "other")
	for range 2 {
		var got []int
		for no, v := range all {
			if v != name(no) {
				t.Error(no, v)
			}
			got = append(got, no)
			c.Drop(no)
		}
		if !slices.Equal(got, []int{0, 1, 2, 3, 4, 7, 9}) {
			t.Error(got)
		}
	}
	for range all {
		break
	}
}

func TestP7_2Copy(t *testing.T) {
	c := made(t, 1, 2)
	put(t, c, 1, 2)
	d := c.Copy()
	if v, is, _ := d.Victim(3); v != 1 || !is || !slices.Equal(numbers(d), []int{1, 2}) {
		t.Error("not the same")
	}
	d.Get(1)
	d.Drop(2)
	d.Put(1, "other")
	c.Drop(2)
	put(t, c, 5)
	if v, _ := c.Peek(1); v != name(1) || !slices.Equal(numbers(c), []int{1, 5}) || !slices.Equal(numbers(d), []int{1}) {
		t.Error(v, numbers(c), numbers(d))
	}
}

func TestP7_2Nil(t *testing.T) {
	var c *tags.Cache[string]
	v, e := c.Get(-1)
	w, f := c.Peek(0)
	x, g := c.Drop(0)
	n, is, h := c.Victim(-1)
	if v != "" || w != "" || x != "" || n != 0 || is || e != api.ErrNil || f != api.ErrNil || g != api.ErrNil || h != api.ErrNil {
		t.Error(v, w, x, n, is, e, f, g, h)
	}
	if c.Put(-1, "") != api.ErrNil || c.Len() != 0 || c.Copy() != nil || len(numbers(c)) != 0 {
		t.Error("of a nil cache")
	}
}

// model is a cache told by its words: each set a row of numbers, the one that was used last at the end.
type model struct {
	sets, ways int
	rows       map[int][]int
	things     map[int]string
}

func (m *model) use(no int) {
	set := no % m.sets
	m.rows[set] = append(slices.DeleteFunc(m.rows[set], func(x int) bool { return x == no }), no)
}

func TestP7_3AsTheWordsTell(t *testing.T) {
	for seed := range int64(60) {
		r := rand.New(rand.NewSource(seed))
		m := &model{1 + r.Intn(8), 1 + r.Intn(4), map[int][]int{}, map[int]string{}}
		c := made(t, m.sets, m.ways)
		for range 400 {
			no := r.Intn(5 * m.sets)
			_, there := m.things[no]
			full := len(m.rows[no%m.sets]) == m.ways
			switch r.Intn(3) {
			case 0:
				v, e := c.Get(no)
				if v != m.things[no] || (e == api.OK) != there {
					t.Fatal(seed, no, v, e)
				}
				if there {
					m.use(no)
				}
			case 1: // a first victim is dropped, where there is no room
				victim, is, _ := c.Victim(no)
				if is != (full && !there) || is && victim != m.rows[no%m.sets][0] {
					t.Fatal(seed, no, victim, is)
				}
				if is {
					c.Drop(victim)
					delete(m.things, victim)
					m.rows[no%m.sets] = m.rows[no%m.sets][1:]
				}
				put(t, c, no)
				m.things[no] = name(no)
				m.use(no)
			case 2:
				if e := c.Put(no, "?"); (e == api.ErrFull) != (full && !there) {
					t.Fatal(seed, no, e)
				} else if e == api.OK {
					c.Put(no, name(no))
					m.things[no] = name(no)
					m.use(no)
				}
			}
			if !maps.Equal(maps.Collect(c.All()), m.things) || c.Len() != len(m.things) {
				t.Fatal(seed, "not what it has to be")
			}
		}
	}
}

func TestP7_3WhoWasUsedLastIsFound(t *testing.T) {
	for ways := 1; ways <= 4; ways++ {
		c := made(t, 2, ways)
		put(t, c, 0)
		for i := 1; i <= ways; i++ {
			if _, e := c.Peek(0); e != api.OK {
				t.Error(ways, i, e)
			}
			if v, is, _ := c.Victim(2 * i); is {
				c.Drop(v)
			}
			put(t, c, 2*i)
		}
		if _, e := c.Peek(0); e != api.ErrNone {
			t.Error(ways, "others came since:", e)
		}
	}
}
