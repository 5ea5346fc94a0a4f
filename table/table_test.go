package table_test

import (
	"math"
	"math/rand"
	"slices"
	"testing"

	"donjon/api"
	"donjon/table"
)

func made(t *testing.T, granules int) *table.Table {
	t.Helper()
	x, e := table.New(granules)
	if x == nil || e != api.OK {
		t.Fatal(granules, e)
	}
	return x
}

// random is a table with any entries.
func random(t *testing.T, r *rand.Rand) (*table.Table, []table.Entry) {
	granules := 1 + r.Intn(16)
	x := made(t, granules)
	many := 1 + r.Intn(5) // few owners: plain groups come often
	var want []table.Entry
	for g := range granules {
		entry := table.Entry{Owner: r.Intn(many), Locked: r.Intn(9) == 0}
		if e := x.Set(g, entry); e != api.OK {
			t.Fatal(e)
		}
		want = append(want, entry)
	}
	return x, want
}

func TestP8_1New(t *testing.T) {
	for _, granules := range []int{0, -1, 17, math.MinInt, math.MaxInt} {
		if x, e := table.New(granules); x != nil || e != api.ErrRange {
			t.Error(granules, e)
		}
	}
	for granules := 1; granules <= 16; granules++ {
		x := made(t, granules)
		words := x.Words()
		if len(words) != granules+(granules+3)/4 || slices.Max(words) != 0 || slices.Min(words) != 0 {
			t.Error(granules, words)
		}
		for g := range granules {
			if entry, e := x.Get(g); entry != (table.Entry{}) || e != api.OK {
				t.Error(g, entry, e)
			}
		}
	}
}

func TestP8_1GetAndSet(t *testing.T) {
	x := made(t, 5)
	for _, g := range []int{-1, 5, math.MinInt, math.MaxInt} {
		if entry, e := x.Get(g); entry != (table.Entry{}) || e != api.ErrRange {
			t.Error(g, entry, e)
		}
		if e := x.Set(g, table.Entry{Owner: 1}); e != api.ErrRange {
			t.Error(g, e)
		}
	}
	for _, owner := range []int{-1, 5, math.MinInt, math.MaxInt} {
		if e := x.Set(2, table.Entry{Owner: owner, Locked: true}); e != api.ErrRange {
			t.Error(owner, e)
		}
	}
	for g := range 5 {
		if entry, _ := x.Get(g); entry != (table.Entry{}) {
			t.Error("an error turned something:", entry)
		}
	}
	for owner := range 5 {
		for _, locked := range []bool{false, true} {
			want := table.Entry{Owner: owner, Locked: locked}
			if e := x.Set(4, want); e != api.OK {
				t.Error(e)
			}
			if entry, e := x.Get(4); entry != want || e != api.OK {
				t.Error(entry, e)
			}
		}
	}
}

func TestP8_1Words(t *testing.T) {
	x := made(t, 5)
	for i, step := range []struct {
		granule int
		entry   table.Entry
		want    []int
	}{
		{1, table.Entry{Owner: 2}, []int{9, 0, 0, 2, 0, 0, 0}},
		{4, table.Entry{Owner: 4}, []int{9, 16, 0, 2, 0, 0, 4}},
		{4, table.Entry{Owner: 4, Locked: true}, []int{9, 25, 0, 2, 0, 0, 12}},
		{1, table.Entry{Locked: true}, []int{9, 25, 0, 8, 0, 0, 12}},
		{1, table.Entry{}, []int{0, 25, 0, 0, 0, 0, 12}},
	} {
		x.Set(step.granule, step.entry)
		if got := x.Words(); !slices.Equal(got, step.want) {
			t.Error(i, got)
		}
	}
	words := x.Words()
	words[0] = 77
	if x.Words()[0] != 0 {
		t.Error("what is answered is the caller's")
	}
	all := made(t, 4)
	for g := range 4 {
		all.Set(g, table.Entry{Owner: 3, Locked: true})
	}
	if got := all.Words(); !slices.Equal(got, []int{5, 11, 11, 11, 11}) {
		t.Error("a group that is locked is not plain:", got)
	}
}

func TestP8_1Word(t *testing.T) {
	x, _ := random(t, rand.New(rand.NewSource(3)))
	for at, want := range x.Words() {
		if got, e := x.Word(at); got != want || e != api.OK {
			t.Error(at, got, e)
		}
	}
	for _, at := range []int{-1, len(x.Words()), math.MinInt, math.MaxInt} {
		if got, e := x.Word(at); got != 0 || e != api.ErrRange {
			t.Error(at, got, e)
		}
	}
}

func TestP8_1Copy(t *testing.T) {
	x := made(t, 3)
	x.Set(1, table.Entry{Owner: 2, Locked: true})
	c := x.Copy()
	if !slices.Equal(c.Words(), x.Words()) {
		t.Error("not the same")
	}
	c.Set(1, table.Entry{})
	x.Set(0, table.Entry{Owner: 4})
	if a, _ := x.Get(1); a != (table.Entry{Owner: 2, Locked: true}) {
		t.Error(a)
	}
	if a, _ := c.Get(0); a != (table.Entry{}) {
		t.Error(a)
	}
}

func TestP8_1Nil(t *testing.T) {
	var x *table.Table
	entry, e := x.Get(0)
	word, f := x.Word(0)
	if entry != (table.Entry{}) || word != 0 || e != api.ErrNil || f != api.ErrNil || x.Set(0, table.Entry{Owner: 9}) != api.ErrNil {
		t.Error(entry, word, e, f)
	}
	if len(x.Words()) != 0 || x.Copy() != nil {
		t.Error("of a nil table")
	}
}

func TestP8_2First(t *testing.T) {
	for g := -2; g < 19; g++ {
		at, e := table.First(g)
		if g < 0 || g > 15 {
			if at != 0 || e != api.ErrRange {
				t.Error(g, at, e)
			}
		} else if at != g/4 || e != api.OK {
			t.Error(g, at, e)
		}
	}
	for _, g := range []int{math.MinInt, math.MaxInt} {
		if at, e := table.First(g); at != 0 || e != api.ErrRange {
			t.Error(g, at, e)
		}
	}
}

func TestP8_2NextRanges(t *testing.T) {
	for _, x := range [][3]int{{0, 0, 0}, {17, 0, 0}, {-1, 0, 0}, {5, -1, 0}, {5, 5, 1}, {5, 1, 1}, {5, 1, 2}, {5, 1, 4}, {5, 4, 0}, {5, 1, -1}, {5, 1, 7},
		{math.MaxInt, 0, 0}, {5, math.MaxInt, 0}, {5, math.MinInt, 0}, {5, 0, math.MaxInt}, {5, 0, math.MinInt}} {
		for _, word := range []int{0, 3, 9} {
			next, entry, over, e := table.Next(x[0], x[1], x[2], word)
			if next != 0 || entry != (table.Entry{}) || over || e != api.ErrRange {
				t.Error(x, word, next, entry, over, e)
			}
		}
	}
}

func TestP8_2NextOfAllWords(t *testing.T) {
	for granules := 1; granules <= 16; granules++ {
		groups := (granules + 3) / 4
		for g := range granules {
			words := []int{math.MinInt, math.MaxInt, math.MinInt + 1}
			for w := -20; w < 130; w++ {
				words = append(words, w)
			}
			for _, w := range words {
				nextOfGroup(t, granules, groups, g, w)
				nextOfGranule(t, granules, groups, g, w)
			}
		}
	}
}

func nextOfGroup(t *testing.T, granules, groups, g, w int) {
	next, entry, over, e := table.Next(granules, g, g/4, w)
	switch {
	case w >= 0 && w <= 16 && w%4 == 0:
		if next != 0 || entry != (table.Entry{Owner: w / 4}) || !over || e != api.OK {
			t.Error(granules, g, w, next, entry, over, e)
		}
	case w == 4*(groups+4*(g/4))+1:
		if next != groups+g || entry != (table.Entry{}) || over || e != api.OK {
			t.Error(granules, g, w, next, entry, over, e)
		}
	default:
		if next != 0 || entry != (table.Entry{}) || over || e != api.ErrForm {
			t.Error(granules, g, w, next, entry, over, e)
		}
	}
}

func nextOfGranule(t *testing.T, granules, groups, g, w int) {
	next, entry, over, e := table.Next(granules, g, groups+g, w)
	if w >= 0 && w <= 4 || w >= 8 && w <= 12 {
		if next != 0 || entry != (table.Entry{Owner: w % 8, Locked: w >= 8}) || !over || e != api.OK {
			t.Error(granules, g, w, next, entry, over, e)
		}
	} else if next != 0 || entry != (table.Entry{}) || over || e != api.ErrForm {
		t.Error(granules, g, w, next, entry, over, e)
	}
}

func TestP8_2May(t *testing.T) {
	numbers := []int{math.MinInt, -1, 0, 1, 2, 3, 4, 5, math.MaxInt}
	for _, world := range numbers {
		for _, owner := range numbers {
			want := world >= 0 && world <= 3 && owner >= 0 && owner <= 4 && (world == 0 || owner == world || owner == 4)
			if table.May(world, owner) != want {
				t.Error(world, owner)
			}
		}
	}
}

func TestP8_3WalksTellTheEntry(t *testing.T) {
	for seed := range int64(300) {
		x, want := random(t, rand.New(rand.NewSource(seed)))
		for g, entry := range want {
			at, _ := table.First(g)
			words := 0
			for over := false; !over && words < 3; words++ {
				word, e := x.Word(at)
				next, got, is, f := table.Next(len(want), g, at, word)
				if e != api.OK || f != api.OK || is && got != entry {
					t.Fatal(seed, g, at, word, e, f, got)
				}
				at, over = next, is
			}
			if words > 2 {
				t.Error(seed, g, "a walk is over by two words")
			}
		}
	}
}

func TestP8_3WordsTellEntriesAndEntriesWords(t *testing.T) {
	for seed := range int64(300) {
		r := rand.New(rand.NewSource(seed))
		x, entries := random(t, r)
		y := made(t, len(entries))
		words := x.Words()
		for g := range entries {
			_, entry, over, e := table.Next(len(entries), g, (len(entries)+3)/4+g, words[(len(entries)+3)/4+g])
			if !over || e != api.OK || y.Set(g, entry) != api.OK {
				t.Fatal(seed, g, e)
			}
		}
		if !slices.Equal(y.Words(), words) {
			t.Error(seed, words, y.Words())
		}
	}
}
