package checker_test

import (
	"math"
	"math/rand"
	"slices"
	"testing"

	"donjon/api"
	"donjon/checker"
	"donjon/table"
)

func made(t *testing.T, entries, granules int) *checker.Checker {
	t.Helper()
	c, e := checker.New(entries, granules)
	if c == nil || e != api.OK {
		t.Fatal(entries, granules, e)
	}
	return c
}

// learn lets a checker of five granules walk to its end: the group's word sends it on to the granule's own.
func learn(t *testing.T, c *checker.Checker, granule, owner int) {
	t.Helper()
	at, e := c.Begin(granule)
	if e != api.OK {
		t.Fatal(granule, e)
	}
	next, over, e := c.Walked(at, 4*(2+granule/4*4)+1)
	if over || e != api.OK {
		t.Fatal(granule, e)
	}
	if next, over, e = c.Walked(next, owner); next != 0 || !over || e != api.OK {
		t.Fatal(granule, next, over, e)
	}
}

// pairs is what a checker knows, and whom.
func pairs(c *checker.Checker) [][2]int {
	var out [][2]int
	for g, o := range c.All() {
		out = append(out, [2]int{g, o})
	}
	return out
}

func walking(t *testing.T, c *checker.Checker, granule, at int, is bool) {
	t.Helper()
	if g, a, i := c.Walking(); g != granule || a != at || i != is {
		t.Error("walks:", g, a, i, "not", granule, at, is)
	}
}

func TestP9_1New(t *testing.T) {
	if checker.Hit != 1 || checker.Deny != 2 || checker.Miss != 3 {
		t.Error("answers are numbered from 1 on")
	}
	for _, x := range [][2]int{{0, 1}, {1, 0}, {9, 1}, {1, 17}, {-1, 1}, {1, -1}, {math.MaxInt, 1}, {1, math.MinInt}} {
		if c, e := checker.New(x[0], x[1]); c != nil || e != api.ErrRange {
			t.Error(x, e)
		}
	}
	for entries := 1; entries <= 8; entries++ {
		for granules := 1; granules <= 16; granules++ {
			c := made(t, entries, granules)
			walking(t, c, 0, 0, false)
			if a, e := c.Ask(0, granules-1); a != checker.Miss || e != api.OK || len(pairs(c)) != 0 {
				t.Error(a, e)
			}
		}
	}
}

func TestP9_1Ask(t *testing.T) {
	c := made(t, 8, 5)
	for owner := range 5 {
		learn(t, c, owner, owner)
	}
	for owner := range 5 {
		for world := range 4 {
			want := checker.Deny
			if table.May(world, owner) {
				want = checker.Hit
			}
			if a, e := c.Ask(world, owner); a != want || e != api.OK {
				t.Error(world, owner, a, e)
			}
		}
	}
	for _, x := range [][2]int{{0, -1}, {0, 5}, {-1, 0}, {4, 0}, {math.MaxInt, 0}, {0, math.MinInt}} {
		if a, e := c.Ask(x[0], x[1]); a != 0 || e != api.ErrRange {
			t.Error(x, a, e)
		}
	}
}

func TestP9_Example(t *testing.T) {
	c := made(t, 1, 5)
	if at, e := c.Begin(1); at != 0 || e != api.OK {
		t.Error(at, e)
	}
	if next, over, e := c.Walked(0, 9); next != 3 || over || e != api.OK {
		t.Error(next, over, e)
	}
	if next, over, e := c.Walked(3, 2); next != 0 || !over || e != api.OK {
		t.Error(next, over, e)
	}
	for _, x := range [][3]int{{2, 1, checker.Hit}, {1, 1, checker.Deny}, {2, 0, checker.Miss}} {
		if a, _ := c.Ask(x[0], x[1]); a != x[2] {
			t.Error(x, a)
		}
	}
	c.Begin(0)
	c.Drop(0)
	if next, over, e := c.Walked(0, 8); next != 0 || over || e != api.OK {
		t.Error(next, over, e)
	}
}

func TestP9_2Begin(t *testing.T) {
	c := made(t, 2, 5)
	learn(t, c, 3, 1)
	for _, g := range []int{-1, 5, math.MinInt, math.MaxInt} {
		if at, e := c.Begin(g); at != 0 || e != api.ErrRange {
			t.Error(g, at, e)
		}
	}
	if at, e := c.Begin(4); at != 1 || e != api.OK {
		t.Error(at, e)
	}
	walking(t, c, 4, 1, true)
	for g, want := range map[int]api.Errno{3: api.ErrThere, 0: api.ErrState, 4: api.ErrState, 5: api.ErrRange} {
		if at, e := c.Begin(g); at != 0 || e != want {
			t.Error(g, at, e)
		}
	}
	walking(t, c, 4, 1, true)
}

func TestP9_2WalkedErrors(t *testing.T) {
	c := made(t, 2, 5)
	if next, over, e := c.Walked(0, 0); next != 0 || over || e != api.ErrState {
		t.Error(next, over, e)
	}
	c.Begin(1)
	for _, at := range []int{-1, 1, 3, math.MinInt, math.MaxInt} {
		if next, over, e := c.Walked(at, 0); next != 0 || over || e != api.ErrArg {
			t.Error(at, next, over, e)
		}
	}
	for _, word := range []int{-4, 1, 2, 5, 20, 25, math.MinInt, math.MaxInt} {
		if next, over, e := c.Walked(0, word); next != 0 || over || e != api.ErrForm {
			t.Error(word, next, over, e)
		}
	}
	walking(t, c, 1, 0, true)
	if len(pairs(c)) != 0 {
		t.Error(pairs(c))
	}
	c.Walked(0, 9)
	if next, over, e := c.Walked(0, 8); next != 0 || over || e != api.ErrArg {
		t.Error("the group's place is not asked for any more:", next, over, e)
	}
	if next, over, e := c.Walked(3, 7); next != 0 || over || e != api.ErrForm {
		t.Error(next, over, e)
	}
	walking(t, c, 1, 3, true)
}

func TestP9_2WalkedByOneWord(t *testing.T) {
	c := made(t, 2, 5)
	c.Begin(4)
	if next, over, e := c.Walked(1, 12); next != 0 || !over || e != api.OK {
		t.Error(next, over, e)
	}
	walking(t, c, 0, 0, false)
	if p := pairs(c); !slices.Equal(p, [][2]int{{4, 3}}) {
		t.Error(p)
	}
	if _, _, e := c.Walked(1, 12); e != api.ErrState {
		t.Error("it walks no more:", e)
	}
}

func TestP9_2WalkedOfALockedEntry(t *testing.T) {
	c := made(t, 2, 5)
	c.Begin(4)
	c.Walked(1, 4*(2+4)+1)
	if next, over, e := c.Walked(6, 9); next != 1 || over || e != api.OK {
		t.Error(next, over, e)
	}
	walking(t, c, 4, 1, true)
	if len(pairs(c)) != 0 {
		t.Error("a locked entry is not learned")
	}
	c.Walked(1, 25)
	if _, over, _ := c.Walked(6, 1); !over || !slices.Equal(pairs(c), [][2]int{{4, 1}}) {
		t.Error(pairs(c))
	}
}

func TestP9_2WhatWasLearnedFirstIsForgotten(t *testing.T) {
	c := made(t, 3, 5)
	for g := range 3 {
		learn(t, c, g, g)
	}
	c.Ask(0, 0) // is no learning
	learn(t, c, 4, 4)
	if p := pairs(c); !slices.Equal(p, [][2]int{{1, 1}, {2, 2}, {4, 4}}) {
		t.Error(p)
	}
	c.Drop(2)
	learn(t, c, 0, 3)
	learn(t, c, 2, 0)
	if p := pairs(c); !slices.Equal(p, [][2]int{{4, 4}, {0, 3}, {2, 0}}) {
		t.Error(p)
	}
}

func TestP9_3Drop(t *testing.T) {
	c := made(t, 4, 5)
	for g := range 4 {
		learn(t, c, g, 1)
	}
	for _, g := range []int{-2, 5, math.MinInt, math.MaxInt} {
		if n, e := c.Drop(g); n != 0 || e != api.ErrRange {
			t.Error(g, n, e)
		}
	}
	if n, e := c.Drop(4); n != 0 || e != api.OK {
		t.Error(n, e)
	}
	if n, e := c.Drop(2); n != 1 || e != api.OK || !slices.Equal(pairs(c), [][2]int{{0, 1}, {1, 1}, {3, 1}}) {
		t.Error(n, e, pairs(c))
	}
	if n, e := c.Drop(-1); n != 3 || e != api.OK || len(pairs(c)) != 0 {
		t.Error(n, e, pairs(c))
	}
}

func TestP9_3StaleWalks(t *testing.T) {
	for drop, stale := range map[int]bool{1: true, -1: true, 0: false, 4: false} {
		c := made(t, 4, 5)
		c.Begin(1)
		c.Walked(0, 9)
		c.Drop(drop)
		walking(t, c, 1, 3, true)
		if _, _, e := c.Walked(0, 0); e != api.ErrArg {
			t.Error("a stale walk, too, asked for its place:", e)
		}
		next, over, e := c.Walked(3, 2)
		if e != api.OK || over == stale || next != 0 {
			t.Error(drop, next, over, e)
		}
		if stale {
			walking(t, c, 1, 0, true)
			c.Walked(0, 9)
			if _, over, e := c.Walked(3, 4); !over || e != api.OK {
				t.Error("it is stale no more:", over, e)
			}
		}
	}
	c := made(t, 4, 5)
	c.Begin(1)
	c.Drop(1)
	if next, over, e := c.Walked(0, 77); next != 0 || over || e != api.OK {
		t.Error("a stale walk does not look at the word:", next, over, e)
	}
}

func TestP9_3AllAndCopy(t *testing.T) {
	c := made(t, 4, 5)
	learn(t, c, 3, 2)
	learn(t, c, 1, 4)
	all := c.All()
	c.Begin(0)
	d := c.Copy()
	c.Drop(-1)
	for range 2 {
		var got [][2]int
		for g, o := range all {
			got = append(got, [2]int{g, o})
			c.Drop(g)
		}
		if !slices.Equal(got, [][2]int{{3, 2}, {1, 4}}) {
			t.Error(got)
		}
	}
	for range all {
		break
	}
	walking(t, d, 0, 0, true)
	if !slices.Equal(pairs(d), [][2]int{{3, 2}, {1, 4}}) || len(pairs(c)) != 0 {
		t.Error(pairs(d), pairs(c))
	}
	if _, over, _ := d.Walked(0, 4); !over {
		t.Error("the copy is not stale")
	}
	if _, over, _ := c.Walked(0, 4); over {
		t.Error("the other one is")
	}
}

func TestP9_3Nil(t *testing.T) {
	var c *checker.Checker
	a, e := c.Ask(9, 9)
	b, f := c.Begin(-1)
	n, g := c.Drop(-2)
	next, over, h := c.Walked(0, 0)
	if a != 0 || b != 0 || n != 0 || next != 0 || over || e != api.ErrNil || f != api.ErrNil || g != api.ErrNil || h != api.ErrNil {
		t.Error(a, b, n, next, over, e, f, g, h)
	}
	walking(t, c, 0, 0, false)
	if c.Copy() != nil || len(pairs(c)) != 0 {
		t.Error("of a nil checker")
	}
}

// TestP9_4NothingOldIsLearned lets a table turn while its words are on their way: what turned is dropped behind.
func TestP9_4NothingOldIsLearned(t *testing.T) {
	for seed := range int64(200) {
		r := rand.New(rand.NewSource(seed))
		granules, entries := 1+r.Intn(16), 1+r.Intn(8)
		x, _ := table.New(granules)
		c := made(t, entries, granules)
		asked, word, flies := 0, 0, false // the word is read when it is asked for, and comes later
		told := make([]int, granules)     // what the table told since the last Drop
		for range 500 {
			g := r.Intn(granules)
			switch r.Intn(3) {
			case 0:
				entry := table.Entry{Owner: r.Intn(5), Locked: r.Intn(4) == 0}
				x.Set(g, entry)
				c.Drop(g)
				told[g] = entry.Owner
			case 1:
				if at, e := c.Begin(g); e == api.OK {
					asked, flies = at, true
					word, _ = x.Word(at)
				}
			case 2:
				if !flies {
					continue
				}
				next, over, e := c.Walked(asked, word)
				if e != api.OK {
					t.Fatal(seed, e)
				}
				asked, flies = next, !over
				if flies {
					word, _ = x.Word(next)
				}
			}
			known(t, c, told, entries)
		}
	}
}

func known(t *testing.T, c *checker.Checker, told []int, entries int) {
	t.Helper()
	seen := map[int]bool{}
	for g, o := range c.All() {
		if seen[g] || told[g] != o {
			t.Fatal(g, "known as", o, "not", told[g], seen[g])
		}
		seen[g] = true
	}
	if len(seen) > entries {
		t.Fatal("knows too much")
	}
}
