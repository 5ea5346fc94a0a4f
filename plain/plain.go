// Package plain does the instructions that ask neither memory nor the monitor: the same ones for each kind of machine.
package plain

import (
	"donjon/api"
	"donjon/isa"
)

// State is what such an instruction reads and turns.
type State struct {
	Regs  [isa.Regs]int
	At    int
	World int
}

// Do is the state behind an instruction, and what its event tells; false, if it is none of these (or a Halt).
func Do(x isa.Instr, s State) (then State, value int, code api.Errno, is bool) {
	then = s
	then.At++
	switch x.Op {
	case isa.Set:
		value = x.B
		then.Regs[x.A] = value
	case isa.Add:
		value = s.Regs[x.B] + s.Regs[x.C]
		then.Regs[x.A] = value
	case isa.Fence:
	case isa.World:
		value = x.A
		if s.World != api.Root { // a world does not come to another one by itself
			code = api.ErrWorld
		} else {
			then.World = x.A
		}
	case isa.Jump:
		value = x.A
		then.At = x.A
	case isa.Zero:
		value = s.Regs[x.A]
		if value == 0 {
			then.At = x.B
		}
	default:
		return s, 0, api.OK, false
	}
	return then, value, code, true
}
