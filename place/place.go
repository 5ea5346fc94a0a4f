// Package place is layer 1: where words, lines and granules lie, and in which bank a line is.
package place

import (
	"iter"

	"donjon/api"
)

// Config is how great all is.
type Config struct {
	Cores    int
	Granules int
	Sets     int
	Ways     int
	Depth    int
	Entries  int
	Banks    int
}

// limit is a number of a configuration, and the greatest that it may be.
type limit struct {
	number int
	most   int
}

// Check is what is wrong with a configuration.
func Check(c Config) api.Errno {
	limits := [...]limit{
		{c.Cores, api.MaxCores},
		{c.Granules, api.MaxGranules},
		{c.Sets, api.MaxSets},
		{c.Ways, api.MaxWays},
		{c.Depth, api.MaxDepth},
		{c.Entries, api.MaxEntries},
		{c.Banks, api.MaxBanks},
	}
	e := api.OK
look:
	for _, l := range limits {
		if l.number < 1 || l.number > l.most {
			e = api.ErrRange
			break look
		}
	}
	return e
}

// Words is how many words there are.
func Words(c Config) int { return Lines(c) * api.LineWords }

// Lines is how many lines there are.
func Lines(c Config) int {
	if Check(c) != api.OK {
		return 0
	}
	return c.Granules * api.GranuleLines
}

// within tells whether a number is one of so many; of a configuration that may not be there are none.
func within(number, many int) bool { return number >= 0 && number < many }

// Line is the line of a word, and its place there.
func Line(c Config, word int) (line, at int, e api.Errno) {
	if !within(word, Words(c)) {
		return 0, 0, api.ErrRange
	}
	return word / api.LineWords, word % api.LineWords, api.OK
}

// Word is the word at a place of a line.
func Word(c Config, line, at int) (int, api.Errno) {
	if !within(line, Lines(c)) || !within(at, api.LineWords) {
		return 0, api.ErrRange
	}
	return line*api.LineWords + at, api.OK
}

// Granule is a line's.
func Granule(c Config, line int) (int, api.Errno) {
	if !within(line, Lines(c)) {
		return 0, api.ErrRange
	}
	return line / api.GranuleLines, api.OK
}

// Bank is a line's.
func Bank(c Config, line int) (int, api.Errno) {
	if !within(line, Lines(c)) {
		return 0, api.ErrRange
	}
	return line % c.Banks, api.OK
}

// LinesOf goes through a granule's lines, rising.
func LinesOf(c Config, granule int) iter.Seq[int] {
	return func(yield func(int) bool) {
		// Asked of lines, not of Granules: a configuration that may not be has none of them, whatever Granules is.
		if granule < 0 || granule >= Lines(c)/api.GranuleLines {
			return
		}
		first := granule * api.GranuleLines
		for line := first; line < first+api.GranuleLines; line++ {
			if !yield(line) {
				return
			}
		}
	}
}
