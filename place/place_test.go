package place_test

import (
	"math"
	"slices"
	"testing"

	"donjon/api"
	"donjon/place"
)

var full = place.Config{Cores: 4, Granules: 16, Sets: 8, Ways: 4, Depth: 16, Entries: 8, Banks: 4}
var least = place.Config{Cores: 1, Granules: 1, Sets: 1, Ways: 1, Depth: 1, Entries: 1, Banks: 1}

// fields is the numbers of a configuration, and the greatest that each may be.
func fields(c *place.Config) map[*int]int {
	return map[*int]int{&c.Cores: 4, &c.Granules: 16, &c.Sets: 8, &c.Ways: 4, &c.Depth: 16, &c.Entries: 8, &c.Banks: 4}
}

// wrongs is configurations that may not be: each has one number that is too small, or too great.
func wrongs() []place.Config {
	var out []place.Config
	c := full
	for f, most := range fields(&c) {
		good := *f
		for _, bad := range []int{0, -1, math.MinInt, most + 1, math.MaxInt} {
			*f = bad
			out = append(out, c)
		}
		*f = good
	}
	return out
}

func TestP1_1Check(t *testing.T) {
	c := full
	for f, most := range fields(&c) {
		good := *f
		for v := -2; v <= most+2; v++ {
			*f = v
			want := api.ErrRange
			if v >= 1 && v <= most {
				want = api.OK
			}
			if e := place.Check(c); e != want {
				t.Errorf("Check(%+v): %v", c, e)
			}
		}
		*f = good
	}
	if place.Check(least) != api.OK || place.Check(place.Config{}) != api.ErrRange {
		t.Error("the least one may be, the empty one may not")
	}
}

func TestP1_1Counts(t *testing.T) {
	for n := 1; n <= 16; n++ {
		c := full
		c.Granules = n
		if place.Words(c) != 4*n || place.Lines(c) != 2*n {
			t.Errorf("%d granules: %d words, %d lines", n, place.Words(c), place.Lines(c))
		}
	}
}

func TestP1_1WordsAndLines(t *testing.T) {
	c := full
	c.Granules = 4
	for word := -3; word < 20; word++ {
		line, at, e := place.Line(c, word)
		if word < 0 || word >= 16 {
			if line != 0 || at != 0 || e != api.ErrRange {
				t.Errorf("Line(%d): %d %d %v", word, line, at, e)
			}
		} else if line != word/2 || at != word%2 || e != api.OK {
			t.Errorf("Line(%d): %d %d %v", word, line, at, e)
		}
	}
	for line := -2; line < 10; line++ {
		for at := -2; at < 4; at++ {
			w, e := place.Word(c, line, at)
			if line < 0 || line >= 8 || at < 0 || at > 1 {
				if w != 0 || e != api.ErrRange {
					t.Errorf("Word(%d, %d): %d %v", line, at, w, e)
				}
			} else if w != 2*line+at || e != api.OK {
				t.Errorf("Word(%d, %d): %d %v", line, at, w, e)
			}
		}
	}
	for _, x := range []int{math.MinInt, math.MaxInt} {
		if _, _, e := place.Line(c, x); e != api.ErrRange {
			t.Error("Line of", x)
		}
		if _, e := place.Word(c, x, 0); e != api.ErrRange {
			t.Error("Word of line", x)
		}
		if _, e := place.Word(c, 0, x); e != api.ErrRange {
			t.Error("Word at", x)
		}
	}
}

func TestP1_2GranulesAndBanks(t *testing.T) {
	for banks := 1; banks <= 4; banks++ {
		c := full
		c.Granules, c.Banks = 5, banks
		for line := -2; line < 13; line++ {
			g, e := place.Granule(c, line)
			b, f := place.Bank(c, line)
			if line < 0 || line >= 10 {
				if g != 0 || b != 0 || e != api.ErrRange || f != api.ErrRange {
					t.Errorf("line %d: %d %v, %d %v", line, g, e, b, f)
				}
			} else if g != line/2 || b != line%banks || e != api.OK || f != api.OK {
				t.Errorf("line %d: %d %v, %d %v", line, g, e, b, f)
			}
		}
	}
}

func TestP1_2LinesOf(t *testing.T) {
	c := full
	c.Granules = 3
	for g, want := range map[int][]int{0: {0, 1}, 1: {2, 3}, 2: {4, 5}, 3: nil, -1: nil, math.MaxInt: nil, math.MinInt: nil} {
		lines := place.LinesOf(c, g)
		for range 2 { // it may be gone through anew
			if l := slices.Collect(lines); !slices.Equal(l, want) {
				t.Errorf("LinesOf(%d): %v", g, l)
			}
		}
	}
	for line := range place.LinesOf(c, 1) {
		if line != 2 {
			t.Error("left behind the first one:", line)
		}
		break
	}
}

func TestP1_ConfigurationThatMayNotBe(t *testing.T) {
	for _, c := range wrongs() {
		line, at, e := place.Line(c, 0)
		w, f := place.Word(c, 0, 0)
		g, h := place.Granule(c, 0)
		b, i := place.Bank(c, 0)
		if line != 0 || at != 0 || w != 0 || g != 0 || b != 0 {
			t.Errorf("%+v: %d %d %d %d %d", c, line, at, w, g, b)
		}
		if e != api.ErrRange || f != api.ErrRange || h != api.ErrRange || i != api.ErrRange || place.Check(c) != api.ErrRange {
			t.Errorf("%+v: %v %v %v %v", c, e, f, h, i)
		}
		if place.Words(c) != 0 || place.Lines(c) != 0 || len(slices.Collect(place.LinesOf(c, 0))) != 0 {
			t.Errorf("%+v: has words, or lines", c)
		}
	}
}

func TestP1_3ThereAndBack(t *testing.T) {
	for granules := 1; granules <= 16; granules++ {
		for banks := 1; banks <= 4; banks++ {
			c := full
			c.Granules, c.Banks = granules, banks
			thereAndBack(t, c)
		}
	}
}

func thereAndBack(t *testing.T, c place.Config) {
	for word := range place.Words(c) {
		line, at, e := place.Line(c, word)
		if w, f := place.Word(c, line, at); w != word || e != api.OK || f != api.OK {
			t.Errorf("%d: %d", word, w)
		}
	}
	granules := map[int]int{}
	for g := range c.Granules {
		for line := range place.LinesOf(c, g) {
			granules[line]++
			if of, e := place.Granule(c, line); of != g || e != api.OK {
				t.Errorf("line %d of granule %d: %d", line, g, of)
			}
		}
	}
	banks := make([]int, c.Banks)
	for line := range place.Lines(c) {
		if granules[line] != 1 {
			t.Errorf("line %d is in %d granules", line, granules[line])
		}
		b, _ := place.Bank(c, line)
		banks[b]++
		for at := range 2 {
			w, _ := place.Word(c, line, at)
			if l, a, e := place.Line(c, w); l != line || a != at || e != api.OK {
				t.Errorf("line %d, %d: %d %d", line, at, l, a)
			}
		}
	}
	if slices.Max(banks)-slices.Min(banks) > 1 {
		t.Errorf("%+v: banks %v", c, banks)
	}
}
