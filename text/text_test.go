package text_test

import (
	"math"
	"slices"
	"strconv"
	"testing"

	"donjon/text"
)

func TestJoinAndSplit(t *testing.T) {
	for line, want := range map[string][]int{
		"":                              nil,
		"a":                             nil,
		"a 0":                           {0},
		"set 1 -7":                      {1, -7},
		" 1":                            {1},
		"a 9223372036854775807":         {math.MaxInt},
		"b -9223372036854775808 10 100": {math.MinInt, 10, 100},
	} {
		word, numbers, is := text.Split(line)
		if !is || !slices.Equal(numbers, want) || text.Join(word, numbers...) != line {
			t.Error(strconv.Quote(line), word, numbers, is)
		}
	}
}

func TestSplitOfWhatIsNotWrittenSo(t *testing.T) {
	for _, line := range []string{"a ", "a  1", "a 1 ", " a", "a b", "a 01", "a -0", "a +1", "a 00", "a -01", "a 1_0", "a 0x1", "a 1.0", "a -", "a --1",
		"a 9223372036854775808", "a -9223372036854775809", "a 1\t2", "a 1\n", "a ١"} {
		if word, numbers, is := text.Split(line); is || word != "" || numbers != nil {
			t.Error(strconv.Quote(line), word, numbers)
		}
	}
}
