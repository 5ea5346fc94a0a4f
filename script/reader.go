package script

import (
	"strings"

	"donjon/api"
	"donjon/isa"
	"donjon/machine"
	"donjon/text"
)

// reader reads a text line by line; once a line is wrong it stays so.
type reader struct {
	lines []string
	wrong bool
}

// next is the next line's word and numbers.
func (r *reader) next() (string, []int) {
	if r.wrong || len(r.lines) == 0 {
		r.wrong = true
		return "", nil
	}
	word, numbers, written := text.Split(r.lines[0])
	r.lines = r.lines[1:]
	r.wrong = !written
	return word, numbers
}

// is tells whether the next line has a word.
func (r *reader) is(word string) bool {
	first, _, _ := strings.Cut(r.lines[0], " ")
	return first == word
}

// numbers is those of the next line, which has to have a word.
func (r *reader) numbers(word string) []int {
	has, numbers := r.next()
	if has != word {
		r.wrong = true
	}
	return numbers
}

// core is a core's world and program.
func (r *reader) core() (int, []isa.Instr) {
	world := r.numbers("core")
	if len(world) != 1 {
		r.wrong = true
		return 0, nil
	}
	var code strings.Builder
	for len(r.lines) > 0 && r.lines[0] != "end" {
		code.WriteString(r.lines[0] + "\n")
		r.lines = r.lines[1:]
	}
	p, _, e := isa.Parse(code.String())
	if end := r.numbers("end"); e != api.OK || len(end) > 0 {
		r.wrong = true
	}
	return world[0], p
}

// thing is something that is to be done.
func (r *reader) thing() machine.Do {
	word, numbers := r.next()
	for what, t := range things {
		if t.word == word && t.many == len(numbers) {
			var all [3]int
			copy(all[:], numbers)
			return machine.Do{What: what, A: all[0], B: all[1], C: all[2]}
		}
	}
	r.wrong = true
	return machine.Do{}
}
