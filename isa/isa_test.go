package isa_test

import (
	"math"
	"math/rand"
	"slices"
	"strconv"
	"strings"
	"testing"

	"donjon/api"
	"donjon/isa"
)

// what a number may be, as the chapter's table tells it.
type number struct {
	least, most int
	place       bool // most is how many instructions there are
}

var (
	reg   = number{0, 3, false}
	whole = number{math.MinInt, math.MaxInt, false}
	world = number{1, 3, false}
	call  = number{1, 4, false}
	place = number{0, 0, true}
)

var table = []struct {
	op   int
	word string
	has  []number
}{
	{isa.Set, "set", []number{reg, whole}},
	{isa.Add, "add", []number{reg, reg, reg}},
	{isa.Load, "load", []number{reg, reg}},
	{isa.Store, "store", []number{reg, reg}},
	{isa.Swap, "swap", []number{reg, reg}},
	{isa.Fence, "fence", nil},
	{isa.World, "world", []number{world}},
	{isa.Call, "call", []number{call, reg, reg}},
	{isa.Jump, "jump", []number{place}},
	{isa.Zero, "zero", []number{reg, place}},
	{isa.Halt, "halt", nil},
}

// made is an instruction from a number for each that the op has.
func made(op int, v ...int) isa.Instr {
	var a [3]int
	copy(a[:], v)
	return isa.Instr{Op: op, A: a[0], B: a[1], C: a[2]}
}

// may tells whether a number may be.
func (n number) may(v, many int) bool {
	if n.place {
		return v >= 0 && v <= many
	}
	return v >= n.least && v <= n.most
}

// good is numbers that may be, in any program.
func good(has []number) []int {
	out := make([]int, len(has))
	for i, n := range has {
		if n.least > 0 {
			out[i] = n.least
		}
	}
	return out
}

func TestP10_OpsAreNumbered(t *testing.T) {
	for i, x := range table {
		if x.op != i+1 {
			t.Error(x.word, x.op)
		}
	}
	if isa.Delegate != 1 || isa.Revoke != 2 || isa.Transfer != 3 || isa.Share != 4 || isa.Regs != 4 {
		t.Error("calls are numbered from 1 on")
	}
}

func TestP10_1MayOfKinds(t *testing.T) {
	for _, op := range []int{0, -1, 12, math.MinInt, math.MaxInt} {
		for _, many := range []int{0, 5, -1} {
			if e := isa.May(isa.Instr{Op: op, A: 1, B: -9}, many); e != api.ErrKind {
				t.Error(op, e)
			}
		}
	}
}

func TestP10_1MayOfNumbers(t *testing.T) {
	tries := []int{math.MinInt, -1, 0, 1, 2, 3, 4, 5, 6, 31, 32, 33, math.MaxInt}
	manys := []int{math.MinInt, -1, 0, 1, 5, 32, 33, math.MaxInt}
	for _, x := range table {
		for i := range 3 {
			for _, v := range tries {
				for _, many := range manys {
					values := make([]int, 3)
					copy(values, good(x.has))
					values[i] = v
					want := api.OK
					for j, w := range values {
						if j < len(x.has) && !x.has[j].may(w, many) || j >= len(x.has) && w != 0 {
							want = api.ErrRange
						}
					}
					if e := isa.May(made(x.op, values...), many); e != want {
						t.Error(x.word, values, many, e)
					}
				}
			}
		}
	}
}

func TestP10_1Check(t *testing.T) {
	halt, bad, none := made(isa.Halt), made(isa.Set, 4, 0), made(99)
	long := make([]isa.Instr, 33)
	for i := range long {
		long[i] = halt
	}
	worse := slices.Clone(long)
	worse[0] = none
	for i, x := range []struct {
		p    []isa.Instr
		line int
		want api.Errno
	}{
		{nil, 0, api.OK},
		{[]isa.Instr{halt, halt}, 0, api.OK},
		{[]isa.Instr{bad, none}, 1, api.ErrRange},
		{[]isa.Instr{halt, none, bad}, 2, api.ErrKind},
		{[]isa.Instr{halt, made(isa.Jump, 2)}, 0, api.OK},
		{[]isa.Instr{made(isa.Jump, 3), halt}, 1, api.ErrRange},
		{[]isa.Instr{halt, made(isa.Zero, 0, 3)}, 2, api.ErrRange},
		{[]isa.Instr{halt, made(isa.Zero, 0, -1)}, 2, api.ErrRange},
		{long[:32], 0, api.OK},
		{long, 0, api.ErrFull},
		{worse, 0, api.ErrFull},
	} {
		if line, e := isa.Check(x.p...); line != x.line || e != x.want {
			t.Error(i, line, e)
		}
		if s, e := isa.Print(x.p...); e != x.want || e != api.OK && s != "" {
			t.Error(i, s, e)
		}
	}
}

func TestP10_1Memory(t *testing.T) {
	for _, op := range []int{math.MinInt, -1, 0, 1, 2, 3, 4, 5, 6, 7, 8, 9, 10, 11, 12, math.MaxInt} {
		if isa.Memory(op) != (op == isa.Load || op == isa.Store || op == isa.Swap) {
			t.Error(op)
		}
	}
}

func TestP10_2PrintAndParseOfEachOp(t *testing.T) {
	for _, x := range table {
		for _, v := range []int{math.MinInt, -12, 0, 1, 3, math.MaxInt} {
			values := good(x.has)
			s := x.word
			for i := range values {
				if x.has[i].may(v, 1) {
					values[i] = v
				}
				s += " " + strconv.Itoa(values[i])
			}
			s += "\n"
			one := made(x.op, values...)
			if got, e := isa.Print(one); got != s || e != api.OK {
				t.Errorf("%q: %q %v", s, got, e)
			}
			if p, line, e := isa.Parse(s); !slices.Equal(p, []isa.Instr{one}) || line != 0 || e != api.OK {
				t.Errorf("%q: %v %d %v", s, p, line, e)
			}
		}
	}
	if s, e := isa.Print(); s != "" || e != api.OK {
		t.Error(s, e)
	}
}

func TestP10_2ParseErrors(t *testing.T) {
	for s, want := range map[string]struct {
		line int
		e    api.Errno
	}{
		"":                                   {0, api.OK},
		"\n":                                 {1, api.ErrForm},
		"halt":                               {1, api.ErrForm},
		"halt\nhalt":                         {2, api.ErrForm},
		"halt\nnothing\n":                    {2, api.ErrForm},
		"halt\n\nhalt\n":                     {2, api.ErrForm},
		" halt\n":                            {1, api.ErrForm},
		"halt \n":                            {1, api.ErrForm},
		"halt 0\n":                           {1, api.ErrForm},
		"HALT\n":                             {1, api.ErrForm},
		"halt\r\n":                           {1, api.ErrForm},
		"set 1\n":                            {1, api.ErrForm},
		"set 1 2 3\n":                        {1, api.ErrForm},
		"set  1 2\n":                         {1, api.ErrForm},
		"set 1 02\n":                         {1, api.ErrForm},
		"set 1 -0\n":                         {1, api.ErrForm},
		"set 1 +2\n":                         {1, api.ErrForm},
		"set 01 2\n":                         {1, api.ErrForm},
		"set 1 x\n":                          {1, api.ErrForm},
		"set 1 9223372036854775808\n":        {1, api.ErrForm},
		"set 1 9223372036854775807\n":        {0, api.OK},
		"set 4 0\n":                          {1, api.ErrRange},
		"set 9223372036854775807 0\n":        {1, api.ErrRange},
		"set -1 0\nbad\n":                    {1, api.ErrRange},
		"bad\nset -1 0\n":                    {1, api.ErrForm},
		"halt\nset -1 0\nbad\n":              {2, api.ErrRange},
		"jump 3\nhalt\n":                     {1, api.ErrRange},
		"jump 2\nhalt\n":                     {0, api.OK},
		"jump 2\nhalt":                       {1, api.ErrRange},
		"jump 1\nhalt":                       {2, api.ErrForm},
		"call 0 0 0\n":                       {1, api.ErrRange},
		"call 5 0 0\n":                       {1, api.ErrRange},
		"world 0\n":                          {1, api.ErrRange},
		"world 4\n":                          {1, api.ErrRange},
		strings.Repeat("halt\n", 32):         {0, api.OK},
		strings.Repeat("halt\n", 33):         {0, api.ErrFull},
		strings.Repeat("\n", 33):             {0, api.ErrFull},
		strings.Repeat("halt\n", 32) + "x":   {33, api.ErrForm},
		"x" + strings.Repeat("halt\n", 1000): {0, api.ErrFull},
	} {
		p, line, e := isa.Parse(s)
		if line != want.line || e != want.e || e != api.OK && len(p) != 0 {
			t.Errorf("%q: %v %d %v", s, p, line, e)
		}
	}
}

func TestP10_Examples(t *testing.T) {
	p, line, e := isa.Parse("call 2 1 0\n")
	if !slices.Equal(p, []isa.Instr{{Op: isa.Call, A: isa.Revoke, B: 1}}) || line != 0 || e != api.OK {
		t.Error(p, line, e)
	}
	if p, line, e := isa.Parse("fence\njump 3\n"); p != nil || line != 2 || e != api.ErrRange {
		t.Error(p, line, e)
	}
}

// program is any one that may be.
func program(r *rand.Rand) []isa.Instr {
	p := make([]isa.Instr, r.Intn(33))
	for i := range p {
		x := table[r.Intn(len(table))]
		values := make([]int, len(x.has))
		for j, n := range x.has {
			switch {
			case n.place:
				values[j] = r.Intn(len(p) + 1)
			case n == whole:
				values[j] = int(r.Uint64()) >> r.Intn(64)
			default:
				values[j] = n.least + r.Intn(n.most-n.least+1)
			}
		}
		p[i] = made(x.op, values...)
	}
	return p
}

func TestP10_3ThereAndBack(t *testing.T) {
	for seed := range int64(300) {
		p := program(rand.New(rand.NewSource(seed)))
		s, e := isa.Print(p...)
		back, line, f := isa.Parse(s)
		again, g := isa.Print(back...)
		if e != api.OK || f != api.OK || g != api.OK || line != 0 || !slices.Equal(p, back) || again != s {
			t.Errorf("%q: %v %v %v %d", s, e, f, g, line)
		}
	}
}
