// Package text writes and reads lines of a word and whole numbers, as the texts of notes, programs and scripts have them.
package text

import (
	"strconv"
	"strings"
)

// Join is a word, and numbers in decimals behind it, a blank ahead of each.
func Join(word string, numbers ...int) string {
	var b strings.Builder
	b.WriteString(word)
	for _, n := range numbers {
		b.WriteByte(' ')
		b.WriteString(strconv.Itoa(n))
	}
	return b.String()
}

// Split is the word and the numbers of a line; false, if Join does not write it so.
func Split(line string) (word string, numbers []int, is bool) {
	parts := strings.Split(line, " ")
	for _, part := range parts[1:] {
		n, err := strconv.Atoi(part)
		// Atoi takes more than Join writes: a plus, zeros ahead, -0.
		if err != nil || strconv.Itoa(n) != part {
			return "", nil, false
		}
		numbers = append(numbers, n)
	}
	return parts[0], numbers, true
}
