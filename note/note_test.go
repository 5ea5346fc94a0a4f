package note_test

import (
	"math"
	"strconv"
	"strings"
	"testing"

	"donjon/api"
	"donjon/note"
	"donjon/place"
)

// small has 3 cores, 5 granules and 10 lines.
var small = place.Config{Cores: 3, Granules: 5, Sets: 1, Ways: 1, Depth: 1, Entries: 1, Banks: 1}

// row is a kind as the chapter's table tells it: its fields by their letters, and what each may be.
type row struct {
	kind  int
	word  string
	lane  int
	field []field
}

type field struct {
	name  string
	least int
	most  int
	holes []int
}

var (
	core   = field{"core", 0, 2, nil}
	line   = field{"line", 0, 9, nil}
	asker  = field{"world", 0, 3, nil}
	owner  = field{"world", 0, 4, nil}
	first  = field{"first", math.MinInt, math.MaxInt, nil}
	second = field{"second", math.MinInt, math.MaxInt, nil}
	dirty  = field{"dirty", 0, 1, nil}
	spot   = field{"no", 0, 19, nil}
	gran   = field{"no", 0, 4, nil}
	bit    = field{"no", 0, 1, nil}
	state  = field{"state", 0, 4, nil}
	grant  = field{"state", 1, 4, []int{api.Owned}}
	probe  = field{"state", 0, 1, nil}
)

var rows = []row{
	{api.GetS, "gets", note.Asks, []field{core, line, asker}},
	{api.GetM, "getm", note.Asks, []field{core, line, asker}},
	{api.Put, "put", note.Asks, []field{core, line, owner, first, second, dirty}},
	{api.Walk, "walk", note.Asks, []field{core, spot}},
	{api.Done, "done", note.Tells, []field{core, line}},
	{api.Reply, "reply", note.Tells, []field{core, line, state, first, second, dirty, bit}},
	{api.Dropped, "dropped", note.Tells, []field{core, gran}},
	{api.Grant, "grant", note.Answers, []field{core, line, owner, grant, first, second}},
	{api.Nack, "nack", note.Answers, []field{core, line, bit}},
	{api.PutAck, "putack", note.Answers, []field{core, line}},
	{api.Walked, "walked", note.Answers, []field{core, first, second, spot}},
	{api.Probe, "probe", note.Orders, []field{core, line, probe}},
	{api.Drop, "drop", note.Orders, []field{core, gran}},
}

// put sets a field of a note.
func put(n *api.Note, name string, v int) {
	switch name {
	case "core":
		n.Core = v
	case "line":
		n.Line = v
	case "world":
		n.World = v
	case "first":
		n.Data[0] = v
	case "second":
		n.Data[1] = v
	case "dirty":
		n.Dirty = v == 1
	case "no":
		n.No = v
	case "state":
		n.State = v
	}
}

// made is a note of a row, and its text, from a number for each field.
func made(r row, numbers []int) (api.Note, string) {
	n := api.Note{Kind: r.kind}
	s := r.word
	for i, f := range r.field {
		put(&n, f.name, numbers[i])
		s += " " + strconv.Itoa(numbers[i])
	}
	return n, s
}

// mid is a number for each field of a row that may be.
func mid(r row) []int {
	var out []int
	for _, f := range r.field {
		if f.name == "first" || f.name == "second" {
			out = append(out, -7)
		} else {
			out = append(out, f.most)
		}
	}
	return out
}

func may(f field, v int) bool {
	for _, h := range f.holes {
		if v == h {
			return false
		}
	}
	return v >= f.least && v <= f.most
}

func TestP3_1Lanes(t *testing.T) {
	if note.Asks != 0 || note.Tells != 1 || note.Answers != 2 || note.Orders != 3 || note.Lanes != 4 {
		t.Error("lanes are numbered from 0 on")
	}
	if len(rows) != 13 {
		t.Fatal(len(rows))
	}
	for _, r := range rows {
		lane, e := note.Lane(r.kind)
		home := r.lane == note.Asks || r.lane == note.Tells
		if lane != r.lane || e != api.OK || note.Home(r.kind) != home {
			t.Error(r.word, lane, e)
		}
	}
	for _, kind := range []int{0, -1, 14, math.MinInt, math.MaxInt} {
		if lane, e := note.Lane(kind); lane != 0 || e != api.ErrKind || note.Home(kind) {
			t.Error(kind, lane, e)
		}
	}
}

func TestP3_1CheckOfKindAndConfiguration(t *testing.T) {
	wrong := small
	wrong.Ways = 9
	for _, kind := range []int{0, -1, 14, math.MinInt, math.MaxInt} {
		for _, c := range []place.Config{small, wrong, {}} {
			n, e := note.Print(c, api.Note{Kind: kind, Core: -1})
			if note.Check(c, api.Note{Kind: kind, Core: -1}) != api.ErrKind || n != "" || e != api.ErrKind {
				t.Error(kind, "has to be ErrKind")
			}
		}
	}
	for _, r := range rows {
		n, s := made(r, mid(r))
		if note.Check(small, n) != api.OK || note.Check(wrong, n) != api.ErrRange {
			t.Error(r.word)
		}
		if got, e := note.Parse(wrong, s); got != (api.Note{}) || e != api.ErrRange {
			t.Error(r.word, got, e)
		}
	}
}

func TestP3_1And2FieldsAtTheirEdges(t *testing.T) {
	for _, r := range rows {
		for i, f := range r.field {
			for _, v := range []int{math.MinInt, -1, 0, 1, 2, 3, 4, 5, 9, 10, 19, 20, math.MaxInt} {
				if f.name == "dirty" && v != 0 && v != 1 {
					continue // told apart in the text alone
				}
				numbers := mid(r)
				numbers[i] = v
				edge(t, r, numbers, may(f, v))
			}
		}
	}
}

func edge(t *testing.T, r row, numbers []int, may bool) {
	n, s := made(r, numbers)
	wantText, wantNote, want := s, n, api.OK
	if !may {
		wantText, wantNote, want = "", api.Note{}, api.ErrRange
	}
	if e := note.Check(small, n); e != want {
		t.Errorf("Check(%q): %v", s, e)
	}
	if got, e := note.Print(small, n); got != wantText || e != want {
		t.Errorf("Print(%q): %q, %v", s, got, e)
	}
	if got, e := note.Parse(small, s); got != wantNote || e != want {
		t.Errorf("Parse(%q): %+v, %v", s, got, e)
	}
}

func TestP3_1FieldsThatAKindDoesNotHave(t *testing.T) {
	names := []string{"line", "world", "first", "second", "dirty", "no", "state"}
	for _, r := range rows {
		has := map[string]bool{}
		for _, f := range r.field {
			has[f.name] = true
		}
		for _, name := range names {
			n, _ := made(r, mid(r))
			if has[name] {
				continue
			}
			put(&n, name, 1)
			if e := note.Check(small, n); e != api.ErrRange {
				t.Errorf("%s with a %s: %v", r.word, name, e)
			}
			if s, e := note.Print(small, n); s != "" || e != api.ErrRange {
				t.Errorf("%s with a %s: %q %v", r.word, name, s, e)
			}
		}
	}
}

func TestP3_1FieldsThatMayNotBeThoughZero(t *testing.T) {
	for _, n := range []api.Note{{Kind: api.Grant}, {Kind: api.Grant, Core: 1, Line: 2, World: 3}} {
		if e := note.Check(small, n); e != api.ErrRange {
			t.Error(n, e)
		}
	}
}

func TestP3_2Examples(t *testing.T) {
	c := place.Config{Cores: 2, Granules: 2, Sets: 1, Ways: 1, Depth: 1, Entries: 1, Banks: 1}
	for want, n := range map[string]api.Note{
		"gets 1 3 2":           {Kind: api.GetS, Core: 1, Line: 3, World: 2},
		"grant 0 3 2 1 5 6":    {Kind: api.Grant, Line: 3, World: 2, State: api.Sharing, Data: api.Line{5, 6}},
		"put 1 2 4 -5 0 1":     {Kind: api.Put, Core: 1, Line: 2, World: 4, Data: api.Line{-5, 0}, Dirty: true},
		"reply 0 0 3 1 -2 0 1": {Kind: api.Reply, State: api.Owned, Data: api.Line{1, -2}, No: 1},
		"walked 1 8 9 19":      {Kind: api.Walked, Core: 1, Data: api.Line{8, 9}, No: 19},
	} {
		if s, e := note.Print(c, n); s != want || e != api.OK {
			t.Error(want, s, e)
		}
		if got, e := note.Parse(c, want); got != n || e != api.OK {
			t.Error(want, got, e)
		}
	}
}

func TestP3_2ParseOfWhatIsNotWrittenSo(t *testing.T) {
	bad := []string{"", " ", "1", "none 0", "GETS 1 3 2", "gets", "gets 1", "gets 1 3", "gets 1 3 2 0", "gets 1 3 2 ", " gets 1 3 2", "gets  1 3 2",
		"gets 1 3 2\n", "gets 1 3 02", "gets 1 3 +2", "gets -0 3 2", "gets a 3 2", "gets 1 3 99999999999999999999", "gets 1\t3 2", "gets1 3 2",
		"put 1 2 4 5 0 2", "put 1 2 4 5 0 -1", "put 1 2 4 5 0 true", "reply 0 0 3 1 2 2 0", "reply 0 0 3 1 2 0", "walked 0 1 2", "drop 0", "drop 0 0 0"}
	for _, s := range bad {
		for _, c := range []place.Config{small, {}} {
			if n, e := note.Parse(c, s); n != (api.Note{}) || e != api.ErrForm {
				t.Errorf("%q: %+v %v", s, n, e)
			}
		}
	}
	if _, e := note.Parse(small, strings.Repeat("gets ", 1000)); e != api.ErrForm {
		t.Error(e)
	}
	for _, s := range []string{"gets 3 0 0", "gets -1 0 0", "gets 0 10 0", "drop 0 5", "reply 0 0 5 0 0 1 0", "put 0 0 5 0 0 0"} {
		if n, e := note.Parse(small, s); n != (api.Note{}) || e != api.ErrRange {
			t.Errorf("%q: %+v %v", s, n, e)
		}
	}
}

// all goes through all notes of a row whose words of Data are of some few.
func all(r row, at int, numbers []int, do func(api.Note, string)) {
	if at == len(r.field) {
		n, s := made(r, numbers)
		do(n, s)
		return
	}
	f := r.field[at]
	values := []int{math.MinInt, -10, 0, 12, math.MaxInt}
	if f.name != "first" && f.name != "second" {
		values = nil
		for v := f.least; v <= f.most; v++ {
			if may(f, v) {
				values = append(values, v)
			}
		}
	}
	for _, v := range values {
		all(r, at+1, append(numbers[:at:at], v), do)
	}
}

func TestP3_3ThereAndBack(t *testing.T) {
	texts := map[string]bool{}
	for _, r := range rows {
		all(r, 0, nil, func(n api.Note, s string) {
			printed, e := note.Print(small, n)
			back, f := note.Parse(small, s)
			if e != api.OK || f != api.OK || printed != s || back != n || texts[s] {
				t.Errorf("%q: %q %v, %+v %v", s, printed, e, back, f)
			}
			texts[s] = true
		})
	}
}
