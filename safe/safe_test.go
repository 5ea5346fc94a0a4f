package safe_test

import (
	"math"
	"slices"
	"testing"

	"donjon/api"
	"donjon/machine"
	"donjon/place"
	"donjon/safe"
	"donjon/table"
)

// c has 2 cores, 3 granules, 6 lines.
var c = place.Config{Cores: 2, Granules: 3, Sets: 1, Ways: 1, Depth: 1, Entries: 1, Banks: 1}

// shot is one in which nothing is wrong: granule 0 is Root's, 1 the world 1's, 2 is locked.
func shot() machine.Shot {
	return machine.Shot{
		Copies: []machine.Copy{{Core: 0, Line: 2, State: api.Owned, World: 1, Data: api.Line{5, 6}}, {Core: 1, Line: 2, State: api.Sharing, World: 1, Data: api.Line{5, 6}}, {Core: 1, Line: 4, State: api.Modified, World: 3}},
		Known:  []machine.Known{{Core: 0, Granule: 1, Owner: 1}, {Core: 1, Granule: 2, Owner: 4}},
		Table:  []table.Entry{{Owner: 0}, {Owner: 1}, {Owner: 2, Locked: true}},
		Notes:  []api.Note{{Kind: api.Grant, Core: 1, Line: 3, World: 1, State: api.Sharing}, {Kind: api.Grant, Line: 5, World: 3}, {Kind: api.Put, Line: 1, World: 3}},
		Memory: []api.Line{{}, {}, {0, 1}, {}, {1, 0}, {}},
	}
}

// wrong holds what is wrong of a shot.
func wrong(t *testing.T, name string, s machine.Shot, want ...safe.Wrong) {
	t.Helper()
	if got := slices.Collect(safe.All(c, s)); !slices.Equal(got, want) {
		t.Errorf("%s: %v, not %v", name, got, want)
	}
	var first safe.Wrong
	if len(want) > 0 {
		first = want[0]
	}
	if got, e := safe.Check(c, s); got != first || e != api.OK {
		t.Errorf("%s: %v %v, not %v", name, got, e, first)
	}
}

// turned is the shot, with something turned.
func turned(turn func(s *machine.Shot)) machine.Shot {
	s := shot()
	turn(&s)
	return s
}

func TestP17_1Kinds(t *testing.T) {
	if safe.Fine != 0 || safe.States != 1 || safe.Datas != 2 || safe.Tags != 3 || safe.Knows != 4 || safe.Grants != 5 {
		t.Error("kinds are numbered from 0 on")
	}
	wrong(t, "fine", shot())
	wrong(t, "empty", machine.Shot{Table: make([]table.Entry, 3), Memory: make([]api.Line, 6)})
}

func TestP17_1States(t *testing.T) {
	for state, fits := range map[int]bool{api.Invalid: true, api.Sharing: true, api.Exclusive: false, api.Owned: false, api.Modified: false, 5: false, -1: false, math.MaxInt: false} {
		s := turned(func(s *machine.Shot) { s.Copies[1].State = state })
		if fits {
			wrong(t, "fits", s)
		} else {
			wrong(t, "does not fit", s, safe.Wrong{What: safe.States, At: 2})
		}
	}
	wrong(t, "example", turned(func(s *machine.Shot) {
		s.Copies = []machine.Copy{{Line: 1, State: api.Exclusive}, {Core: 1, Line: 1, State: api.Sharing}}
	}), safe.Wrong{What: safe.States, At: 1})
	wrong(t, "twice of one core", turned(func(s *machine.Shot) { s.Copies = append(s.Copies, s.Copies[2]) }), safe.Wrong{What: safe.States, At: 4})
}

func TestP17_1Datas(t *testing.T) {
	wrong(t, "data", turned(func(s *machine.Shot) { s.Copies[0].Data[1] = 7 }), safe.Wrong{What: safe.Datas, At: 2})
	wrong(t, "an Invalid copy counts", turned(func(s *machine.Shot) {
		s.Copies = append(s.Copies, machine.Copy{Core: 1, Line: 4, State: api.Invalid, World: 3, Data: api.Line{1}})
	}), safe.Wrong{What: safe.Datas, At: 4})
	wrong(t, "the third", turned(func(s *machine.Shot) {
		s.Copies = append(s.Copies, machine.Copy{Line: 2, State: api.Sharing, World: 1, Data: api.Line{5, 0}})
	}), safe.Wrong{What: safe.Datas, At: 2})
}

func TestP17_1Tags(t *testing.T) {
	wrong(t, "tag", turned(func(s *machine.Shot) { s.Copies[1].World = 0 }), safe.Wrong{What: safe.Tags, At: 2})
	wrong(t, "an Invalid copy counts", turned(func(s *machine.Shot) {
		s.Copies = append(s.Copies, machine.Copy{Core: 1, Line: 0, State: api.Invalid, World: 3})
	}), safe.Wrong{What: safe.Tags, At: 0})
	wrong(t, "told now", turned(func(s *machine.Shot) { s.Table[2].Locked = false }), safe.Wrong{What: safe.Tags, At: 4}, safe.Wrong{What: safe.Knows, At: 2}, safe.Wrong{What: safe.Grants, At: 5})
}

func TestP17_1KnowsAndGrants(t *testing.T) {
	wrong(t, "known", turned(func(s *machine.Shot) { s.Known[0].Owner = 4 }), safe.Wrong{What: safe.Knows, At: 1})
	wrong(t, "grant", turned(func(s *machine.Shot) { s.Notes[0].World = 0 }), safe.Wrong{What: safe.Grants, At: 3})
	wrong(t, "other kinds of notes", turned(func(s *machine.Shot) { s.Notes[0] = api.Note{Kind: api.GetM, Line: 3, World: 0} }))
	wrong(t, "a kind that is none", turned(func(s *machine.Shot) { s.Notes[0].Kind = 99; s.Notes[0].World = 77 }))
}

func TestP17_1AllInOrder(t *testing.T) {
	s := turned(func(s *machine.Shot) {
		s.Table[2].Locked = false
		s.Copies = []machine.Copy{
			{Line: 5, State: 9, World: 2}, {Core: 1, Line: 5, State: api.Sharing, World: 3, Data: api.Line{1}},
			{Line: 0, State: api.Modified, World: 1}, {Core: 1, Line: 0, State: api.Modified},
			{Line: 3, World: 2}, {Line: 3, World: 2},
		}
		s.Known = []machine.Known{{Granule: 2, Owner: 0}, {Granule: 0, Owner: 3}, {Core: 1, Granule: 0, Owner: 3}}
		s.Notes = []api.Note{{Kind: api.Grant, Line: 4, World: 0}, {Kind: api.Grant, Line: 1, World: 1}, {Kind: api.Grant, Line: 4, World: 1}}
	})
	want := []safe.Wrong{{What: 1, At: 0}, {What: 1, At: 5}, {What: 2, At: 5}, {What: 3, At: 0}, {What: 3, At: 3}, {What: 3, At: 5}, {What: 4, At: 0}, {What: 4, At: 2}, {What: 5, At: 1}, {What: 5, At: 4}}
	wrong(t, "all", s, want...)
	all := safe.All(c, s)
	for n := range want {
		i := 0
		for w := range all {
			if w != want[i] {
				t.Error(w, want[i])
			}
			if i == n {
				break
			}
			i++
		}
	}
}

func TestP17_1ShotsThatMayNotBe(t *testing.T) {
	for i, turn := range []func(s *machine.Shot){
		func(s *machine.Shot) { s.Table = s.Table[1:] },
		func(s *machine.Shot) { s.Table = append(s.Table, table.Entry{}) },
		func(s *machine.Shot) { s.Memory = s.Memory[1:] },
		func(s *machine.Shot) { s.Memory = append(s.Memory, api.Line{}) },
		func(s *machine.Shot) { s.Copies[0].Core = 2 },
		func(s *machine.Shot) { s.Copies[0].Core = -1 },
		func(s *machine.Shot) { s.Copies[0].Line = 6 },
		func(s *machine.Shot) { s.Copies[0].Line = math.MinInt },
		func(s *machine.Shot) { s.Known[1].Core = math.MaxInt },
		func(s *machine.Shot) { s.Known[1].Core = -1 },
		func(s *machine.Shot) { s.Known[1].Granule = 3 },
		func(s *machine.Shot) { s.Known[1].Granule = -1 },
		func(s *machine.Shot) { s.Notes[2].Core = 2 },
		func(s *machine.Shot) { s.Notes[2].Core = -1 },
		func(s *machine.Shot) { s.Notes[2].Line = 6 },
		func(s *machine.Shot) { s.Notes[2] = api.Note{Kind: 0, Line: -1} },
		func(s *machine.Shot) { *s = machine.Shot{} },
	} {
		s := turned(turn)
		s.Copies = append(s.Copies, machine.Copy{Line: 1, State: 9}) // wrong, too
		may(t, i, c, s, api.ErrArg)
		may(t, i, place.Config{}, s, api.ErrRange)
	}
	wrongly := c
	wrongly.Banks = 5
	may(t, -1, wrongly, shot(), api.ErrRange)
}

// may holds the error of a configuration, or a shot, that may not be.
func may(t *testing.T, i int, c place.Config, s machine.Shot, want api.Errno) {
	t.Helper()
	w, e := safe.Check(c, s)
	g, f := safe.Gone(c, s, -1)
	z, h := safe.Zero(c, s, -1)
	if w != (safe.Wrong{}) || g || z || e != want || f != want || h != want {
		t.Error(i, w, g, z, e, f, h)
	}
	for x := range safe.All(c, s) {
		t.Error(i, x)
	}
}

func TestP17_1EntriesAndNumbersThatCountForNothing(t *testing.T) {
	wrong(t, "numbers", turned(func(s *machine.Shot) {
		s.Table[0].Owner = 99 // no one's
		s.Notes = append(s.Notes, api.Note{Kind: api.Drop, No: 77, World: -4})
	}))
}

func TestP17_2GoneAndZero(t *testing.T) {
	for _, g := range []int{-1, 3, math.MinInt, math.MaxInt} {
		a, e := safe.Gone(c, shot(), g)
		b, f := safe.Zero(c, shot(), g)
		if a || b || e != api.ErrRange || f != api.ErrRange {
			t.Error(g, a, b, e, f)
		}
	}
	for i, turn := range []func(s *machine.Shot){
		func(s *machine.Shot) {},
		func(s *machine.Shot) { s.Copies = append(s.Copies, machine.Copy{Line: 1, State: api.Invalid}) },
		func(s *machine.Shot) { s.Known = append(s.Known, machine.Known{Granule: 0}) },
		func(s *machine.Shot) { s.Notes = append(s.Notes, api.Note{Kind: api.Grant, Line: 0}) },
		func(s *machine.Shot) { s.Notes = append(s.Notes, api.Note{Kind: api.GetM, Line: 0}) },
	} {
		if gone, e := safe.Gone(c, turned(turn), 0); gone != (i == 0 || i == 4) || e != api.OK {
			t.Error(i, gone, e)
		}
	}
	for g, want := range []bool{true, false, false} {
		if zero, e := safe.Zero(c, shot(), g); zero != want || e != api.OK {
			t.Error(g, zero, e)
		}
		if gone, e := safe.Gone(c, shot(), g); gone != want || e != api.OK {
			t.Error(g, gone, e)
		}
	}
	for at := range 4 {
		s := shot()
		s.Memory[at/2][at%2] = -1
		if zero, _ := safe.Zero(c, s, 0); zero {
			t.Error(at)
		}
	}
}
