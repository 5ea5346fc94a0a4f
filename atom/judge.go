package atom

import (
	"donjon/api"
	"donjon/isa"
)

// within tells whether all numbers are from 0 to the greatest one that may be.
func within(most int, numbers ...int) bool {
	for _, n := range numbers {
		if n < 0 || n > most {
			return false
		}
	}
	return true
}

// Judge is what a call answers, by who calls, and who has the granule; and who has it then, and whether it is scrubbed.
func Judge(call, world, owner, to int) (then int, scrub bool, e api.Errno) {
	if !within(api.Worlds, world) || !within(api.Shared, owner) {
		return 0, false, api.ErrRange
	}
	switch call {
	case isa.Delegate:
		then, e = to, delegate(world, owner, to)
	case isa.Revoke:
		then, e = api.Root, revoke(world, owner)
	case isa.Transfer:
		then, e = to, transfer(world, owner, to)
	case isa.Share:
		then, e = api.Shared, share(world, owner)
	default:
		e = api.ErrKind
	}
	if e != api.OK {
		return 0, false, e
	}
	return then, call != isa.Share, api.OK
}

// takes tells whether a granule may be given to someone: to a world, but not to Root.
func takes(to int) bool { return to != api.Root && within(api.Worlds, to) }

func delegate(world, owner, to int) api.Errno {
	switch {
	case world != api.Root:
		return api.ErrWorld
	case owner != api.Root:
		return api.ErrState
	case !takes(to):
		return api.ErrArg
	}
	return api.OK
}

func revoke(world, owner int) api.Errno {
	switch {
	case owner == api.Root:
		return api.ErrState
	case world != api.Root && world != owner:
		return api.ErrWorld
	}
	return api.OK
}

func transfer(world, owner, to int) api.Errno {
	switch {
	case world == api.Root || world != owner:
		return api.ErrWorld
	case !takes(to) || to == owner:
		return api.ErrArg
	}
	return api.OK
}

func share(world, owner int) api.Errno {
	switch {
	case owner == api.Shared:
		return api.ErrState
	case world != owner:
		return api.ErrWorld
	}
	return api.OK
}
