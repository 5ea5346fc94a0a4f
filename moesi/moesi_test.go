package moesi_test

import (
	"math"
	"testing"

	"donjon/api"
	"donjon/moesi"
)

const (
	i = api.Invalid
	s = api.Sharing
	e = api.Exclusive
	o = api.Owned
	m = api.Modified
)

// none is numbers that are no states.
var none = []int{-1, 5, math.MinInt, math.MaxInt}

func TestP6_1WhatStatesAllow(t *testing.T) {
	for _, x := range []struct {
		state                               int
		name                                string
		valid, read, written, dirty, answer bool
		wrote                               int
		err                                 api.Errno
	}{
		{i, "I", false, false, false, false, false, 0, api.ErrState},
		{s, "S", true, true, false, false, false, 0, api.ErrState},
		{e, "E", true, true, true, false, true, m, api.OK},
		{o, "O", true, true, false, true, true, 0, api.ErrState},
		{m, "M", true, true, true, true, true, m, api.OK},
	} {
		if moesi.Valid(x.state) != x.valid || moesi.Load(x.state) != x.read || moesi.Store(x.state) != x.written || moesi.Dirty(x.state) != x.dirty || moesi.Owner(x.state) != x.answer || moesi.Name(x.state) != x.name {
			t.Error(x.name)
		}
		if next, err := moesi.Wrote(x.state); next != x.wrote || err != x.err {
			t.Error(x.name, next, err)
		}
	}
	for _, x := range none {
		if moesi.Valid(x) || moesi.Load(x) || moesi.Store(x) || moesi.Dirty(x) || moesi.Owner(x) || moesi.Name(x) != "" {
			t.Error(x)
		}
		if next, err := moesi.Wrote(x); next != 0 || err != api.ErrRange {
			t.Error(x, next, err)
		}
	}
}

func TestP6_2Probe(t *testing.T) {
	for state, want := range map[int]struct {
		shared       int
		tells, dirty bool
	}{i: {i, false, false}, s: {s, false, false}, e: {s, true, false}, o: {o, true, true}, m: {o, true, true}} {
		next, tells, dirty, err := moesi.Probe(state, s)
		if next != want.shared || tells != want.tells || dirty != want.dirty || err != api.OK {
			t.Error(state, "to Sharing:", next, tells, dirty, err)
		}
		next, tells, dirty, err = moesi.Probe(state, i)
		if next != i || tells != want.tells || dirty != want.dirty || err != api.OK {
			t.Error(state, "to Invalid:", next, tells, dirty, err)
		}
		for _, to := range append([]int{e, o, m}, none...) {
			if next, tells, dirty, err := moesi.Probe(state, to); next != 0 || tells || dirty || err != api.ErrRange {
				t.Error(state, to, next, tells, dirty, err)
			}
		}
	}
	for _, state := range none {
		for _, to := range []int{i, s, e, 7} {
			if next, tells, dirty, err := moesi.Probe(state, to); next != 0 || tells || dirty || err != api.ErrRange {
				t.Error(state, to, next, tells, dirty, err)
			}
		}
	}
}

func TestP6_2Granted(t *testing.T) {
	for n, x := range []struct {
		kind   int
		others []int
		want   int
		err    api.Errno
	}{
		{api.GetS, nil, e, api.OK},
		{api.GetS, []int{i, i, i}, e, api.OK},
		{api.GetS, []int{i, s}, s, api.OK},
		{api.GetS, []int{o, i}, s, api.OK},
		{api.GetS, []int{o, s, s}, s, api.OK},
		{api.GetS, []int{i, e}, 0, api.ErrState},
		{api.GetS, []int{m}, 0, api.ErrState},
		{api.GetS, []int{m, 5}, 0, api.ErrRange},
		{api.GetS, []int{-1}, 0, api.ErrRange},
		{api.GetM, nil, m, api.OK},
		{api.GetM, []int{i, i}, m, api.OK},
		{api.GetM, []int{i, s}, 0, api.ErrState},
		{api.GetM, []int{e}, 0, api.ErrState},
		{api.GetM, []int{o}, 0, api.ErrState},
		{api.GetM, []int{m}, 0, api.ErrState},
		{api.GetM, []int{s, math.MaxInt}, 0, api.ErrRange},
		{api.Put, []int{9}, 0, api.ErrKind},
		{0, nil, 0, api.ErrKind},
		{3, nil, 0, api.ErrKind},
		{math.MinInt, nil, 0, api.ErrKind},
	} {
		if got, err := moesi.Granted(x.kind, x.others...); got != x.want || err != x.err {
			t.Error(n, got, err)
		}
	}
}

func TestP6_3Fit(t *testing.T) {
	for n, x := range []struct {
		states []int
		want   bool
	}{
		{nil, true}, {[]int{i}, true}, {[]int{m}, true}, {[]int{o, s, s}, true}, {[]int{s, o, s, i}, true}, {[]int{s, s}, true}, {[]int{i, e, i}, true},
		{[]int{e, s}, false}, {[]int{s, m}, false}, {[]int{o, o}, false}, {[]int{m, o}, false}, {[]int{e, e}, false}, {[]int{e, i, s}, false},
		{[]int{5}, false}, {[]int{i, -1}, false}, {[]int{math.MaxInt, i}, false}, {[]int{math.MinInt, s, s}, false},
	} {
		if moesi.Fit(x.states...) != x.want {
			t.Error(n, x.states)
		}
	}
}

// each goes through all rows of many states.
func each(many int, do func([]int)) {
	row := make([]int, many)
	var next func(at int)
	next = func(at int) {
		if at == many {
			do(row)
			return
		}
		for state := i; state <= m; state++ {
			row[at] = state
			next(at + 1)
		}
	}
	next(0)
}

func TestP6_4StatesThatFitFitInAnyOrder(t *testing.T) {
	for many := range 5 {
		each(many, func(row []int) {
			fits := moesi.Fit(row...)
			for a := range row {
				for b := range row {
					row[a], row[b] = row[b], row[a]
					if moesi.Fit(row...) != fits {
						t.Error(row)
					}
					row[a], row[b] = row[b], row[a]
				}
			}
		})
	}
}

func TestP6_4StatesFitBehindAGrant(t *testing.T) {
	for many := 1; many < 5; many++ {
		each(many, func(row []int) {
			if !moesi.Fit(row...) {
				return
			}
			for kind, to := range map[int]int{api.GetS: s, api.GetM: i} {
				behind(t, kind, to, row)
			}
		})
	}
}

// behind lets the first one ask: all others are probed.
func behind(t *testing.T, kind, to int, row []int) {
	var others []int
	for _, state := range row[1:] {
		next, _, _, err := moesi.Probe(state, to)
		if err != api.OK {
			t.Error(state, err)
		}
		others = append(others, next)
	}
	got, err := moesi.Granted(kind, others...)
	if err != api.OK || !moesi.Fit(append(others, got)...) {
		t.Error(kind, row, others, got, err)
	}
}
