package script_test

import (
	"math"
	"reflect"
	"slices"
	"strings"
	"testing"

	"donjon/api"
	"donjon/atom"
	"donjon/isa"
	"donjon/machine"
	"donjon/place"
	"donjon/script"
)

// head is the text of a configuration of two cores; what is to be done may follow.
const head = "config 2 1 8 4 16 8 4\nowners 4\nwords 5 -6 0 9223372036854775807\ncore 0\nset 1 -9223372036854775808\ncall 4 0 0\nend\ncore 3\nend\n"

// example is the chapter's.
const example = "config 1 1 1 1 1 1 1\nowners 1\nwords 0 0 0 0\ncore 1\nhalt\nend\nstep 0\n"

// sample is what head tells.
func sample() script.Script {
	return script.Script{Config: machine.Config{
		Config:   place.Config{Cores: 2, Granules: 1, Sets: 8, Ways: 4, Depth: 16, Entries: 8, Banks: 4},
		Programs: [][]isa.Instr{{{Op: isa.Set, A: 1, B: math.MinInt}, {Op: isa.Call, A: isa.Share}}, nil},
		Worlds:   []int{0, 3}, Owners: []int{4}, Words: []int{5, -6, 0, math.MaxInt},
	}}
}

// same tells whether two scripts are, lists without elements being nil or not.
func same(a, b script.Script) bool {
	return a.Config.Config == b.Config.Config && slices.Equal(a.Worlds, b.Worlds) && slices.Equal(a.Owners, b.Owners) && slices.Equal(a.Words, b.Words) &&
		slices.EqualFunc(a.Programs, b.Programs, slices.Equal[[]isa.Instr]) && slices.Equal(a.Do, b.Do)
}

// many is a script with so many things to be done.
func many(n int) script.Script {
	s := sample()
	s.Do = make([]machine.Do, n)
	return s
}

func TestP20_1Print(t *testing.T) {
	s := sample()
	if got, e := script.Print(s); got != head || e != api.OK {
		t.Errorf("%q %v", got, e)
	}
	s.Do = []machine.Do{{What: machine.Step, A: 1}, {What: machine.Deliver, A: -1, B: 2, C: math.MinInt}, {What: machine.Begin, A: 3}, {What: machine.Finish, A: math.MaxInt}, {What: machine.Deliver}}
	want := head + "step 1\ndeliver -1 2 -9223372036854775808\nbegin 3\nfinish 9223372036854775807\ndeliver 0 0 0\n"
	if got, e := script.Print(s); got != want || e != api.OK {
		t.Errorf("%q %v", got, e)
	}
	if got, e := script.Parse(want); !same(got, s) || e != api.OK {
		t.Errorf("%+v %v", got, e)
	}
}

func TestP20_1PrintErrors(t *testing.T) {
	for i, turn := range []func(s *script.Script){
		func(s *script.Script) { s.Banks = 9 },
		func(s *script.Script) { s.Worlds = nil },
		func(s *script.Script) { s.Programs[0][0].Op = 99 },
		func(s *script.Script) { s.Owners[0] = 5 },
	} {
		s := many(5000)
		s.Do[0].What = 9
		turn(&s)
		_, want := machine.New(s.Config)
		if got, e := script.Print(s); got != "" || e != want || want == api.OK {
			t.Error(i, e, want)
		}
		if told, e := script.Run(s); !reflect.DeepEqual(told, script.Told{}) || e != want {
			t.Error(i, told, e)
		}
	}
	s := many(4097)
	s.Do[0].What = 9
	if got, e := script.Print(s); got != "" || e != api.ErrFull {
		t.Error(e)
	}
	if _, e := script.Run(s); e != api.ErrFull {
		t.Error(e)
	}
	if got, e := script.Print(many(4096)); got != head+strings.Repeat("step 0\n", 4096) || e != api.OK {
		t.Error(e)
	}
	for _, d := range []machine.Do{{What: -1}, {What: 4}, {What: math.MinInt}, {What: machine.Step, B: 1}, {What: machine.Step, C: -1}, {What: machine.Begin, C: 1}, {What: machine.Begin, B: 1}, {What: machine.Finish, B: -1}, {What: machine.Finish, C: 1}} {
		s := sample()
		s.Do = []machine.Do{{}, d}
		got, e := script.Print(s)
		told, f := script.Run(s)
		if got != "" || !reflect.DeepEqual(told, script.Told{}) || e != api.ErrArg || f != api.ErrArg {
			t.Error(d, e, f)
		}
	}
}

func TestP20_1PrintHoweverLong(t *testing.T) {
	s := many(4096)
	for i := range s.Do {
		s.Do[i] = machine.Do{What: machine.Deliver, A: math.MinInt, B: math.MinInt, C: math.MinInt}
	}
	got, e := script.Print(s)
	if len(got) <= 262144 || e != api.OK {
		t.Error(len(got), e)
	}
	if _, e := script.Parse(got); e != api.ErrFull {
		t.Error(e)
	}
	if told, e := script.Run(s); told.Refused != 4096 || e != api.OK {
		t.Error(told, e)
	}
}

func TestP20_1ParseOfWhatIsNotWrittenSo(t *testing.T) {
	swap := func(old, new string) string { return strings.Replace(example, old, new, 1) }
	for _, s := range []string{
		"", "\n", "x", example[:len(example)-1], "\n" + example, example + "\n", example + "step", example + "none 0\n",
		swap("config 1", "config"), swap("config 1", "config 1 1"), swap("config", "Config"), swap("config 1", "config 01"), swap("config 1", "config -0"), swap("config 1", "config +1"), swap("config ", "config  "), swap("config ", " config "),
		swap("owners 1\n", ""), swap("owners 1\n", "owners 1 \n"), swap("owners 1\n", "owners\t1\n"), swap("owners 1\n", "owners 1\r\n"), swap("owners", "owner"), swap("owners 1\n", "owners x\n"),
		swap("words 0 0 0 0\n", ""), swap("owners 1\nwords 0 0 0 0\n", ""), swap("words 0", "words 9223372036854775808"),
		swap("owners 1\nwords 0 0 0 0\n", "words 0 0 0 0\nowners 1\n"),
		swap("core 1", "core"), swap("core 1", "core 1 1"), swap("core 1", "core x"), swap("core 1\n", ""), swap("end\n", ""), swap("end\n", "end 0\n"), swap("end\n", "end \n"), swap("end\n", "end\nend\n"),
		swap("halt\n", "halt 0\n"), swap("halt\n", "halt\n\n"), swap("halt\n", "stop\n"), swap("halt\n", "set 4 0\n"), swap("halt\n", "jump 2\n"), swap("halt\n", strings.Repeat("halt\n", 33)), swap("halt\n", "core 1\nhalt\n"),
		swap("step 0", "step"), swap("step 0", "step 0 0"), swap("step 0", "step 00"), swap("step 0", "Step 0"), swap("step 0", "deliver 0"), swap("step 0", "deliver 0 0"), swap("step 0", "deliver 0 0 0 0"), swap("step 0", "begin"), swap("step 0", "begin 0 0"), swap("step 0", "finish 0 0"), swap("step 0", ""),
		swap("step 0\n", "step 0\ncore 1\nend\n"), swap("step 0\n", "step 0\nwords 1\n"),
		swap("core 1\nhalt\nend\n", "core\n"), swap("core 1\nhalt\nend\n", "core 1 1\n"), swap("core 1\nhalt\nend\nstep 0\n", "core\nend\n"),
		head + strings.Repeat("step 0\n", 5000) + "step\n",
		"config 9 1 1 1 1 1 1\nowners 1\nwords\nbad\n",
	} {
		if got, e := script.Parse(s); !reflect.DeepEqual(got, script.Script{}) || e != api.ErrForm {
			t.Errorf("%q: %+v %v", s, got, e)
		}
	}
}

func TestP20_1ParseOrderOfErrors(t *testing.T) {
	long := strings.Repeat("step 0\n", 5000)
	for i, x := range []struct {
		text string
		want api.Errno
	}{
		{strings.Repeat("x", 262145), api.ErrFull},
		{strings.Repeat("x", 262144), api.ErrForm},
		{head + long, api.ErrFull},
		{head + long[:7*4096], api.OK},
		{head + long[:7*4097], api.ErrFull},
		{"config 9 1 1 1 1 1 1\nowners\nwords\n" + long, api.ErrFull},
		{"config 9 1 1 1 1 1 1\nowners\nwords\n", api.ErrRange},
		{"config 1 1 1 1 1 1 1\nowners\nwords\n", api.ErrArg},
		{"config 0 0 0 0 0 0 0\nowners 77 -1\nwords\ncore 9\nend\n", api.ErrRange},
		{"config -1 9223372036854775807 0 0 0 0 0\nowners\nwords\n", api.ErrRange},
		{strings.Replace(example, "core 1", "core 4", 1), api.ErrRange},
		{strings.Replace(example, "owners 1", "owners 5", 1), api.ErrRange},
		{strings.Replace(example, "words 0", "words", 1), api.ErrArg},
		{strings.Replace(example, "end\n", "end\ncore 1\nend\n", 1), api.ErrArg},
		{strings.Replace(example, "core 1\nhalt\nend\n", "", 1), api.ErrArg},
		{example, api.OK},
	} {
		got, e := script.Parse(x.text)
		if e != x.want || e != api.OK && !reflect.DeepEqual(got, script.Script{}) {
			t.Error(i, e, x.want)
		}
	}
}

func TestP20_2Run(t *testing.T) {
	s, e := script.Parse("config 1 1 1 1 2 1 1\nowners 1\nwords 7 0 0 0\ncore 1\nload 1 0\nstore 1 1\nend\n" +
		"step 0\nstep 0\ndeliver 0 0 0\ndeliver 0 2 5\nstep 0\nbegin 0\ndeliver 0 0 0\nbegin 0\nfinish 0\ndeliver 0 2 0\nstep 0\nstep 0\ndeliver 0 1 -1\n")
	if e != api.OK {
		t.Fatal(e)
	}
	told, e := script.Run(s)
	load := atom.Event{Op: isa.Load, World: 1, Value: 7}
	if e != api.OK || told.Done != 10 || told.Refused != 3 || !told.Over || !slices.Equal(told.Events, []atom.Event{load, {At: 1, Op: isa.Store, World: 1, Word: 7, Code: api.ErrFault}}) {
		t.Errorf("%+v %v", told, e)
	}
}

func TestP20_2Example(t *testing.T) {
	s, e := script.Parse(example)
	if e != api.OK {
		t.Fatal(e)
	}
	if told, e := script.Run(s); told.Done != 0 || told.Refused != 1 || !told.Over || len(told.Events) != 0 || e != api.OK {
		t.Error(told, e)
	}
	s.Programs[0][0].Op = isa.Fence
	if told, e := script.Run(s); told.Done != 1 || told.Refused != 0 || !told.Over || len(told.Events) != 1 || e != api.OK {
		t.Error(told, e)
	}
	s.Do = nil
	if told, e := script.Run(s); told.Done != 0 || told.Refused != 0 || told.Over || e != api.OK {
		t.Error(told, e)
	}
}

func TestP20_2Event(t *testing.T) {
	x := atom.Event{Core: 1, At: 2, Op: 3, World: 4, Word: -5, Value: math.MinInt, Code: api.ErrFault}
	if s := script.Event(x); s != "1 2 3 4 -5 -9223372036854775808 19" {
		t.Error(s)
	}
	if s := script.Event(atom.Event{}); s != "0 0 0 0 0 0 0" {
		t.Error(s)
	}
}

func TestP20_3KeepsNothing(t *testing.T) {
	s := sample()
	s.Do = []machine.Do{{}}
	script.Print(s)
	script.Run(s)
	want := sample()
	want.Do = []machine.Do{{}}
	if !same(s, want) {
		t.Error("what was handed in is written into")
	}
}
