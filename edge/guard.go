package edge

import (
	"offcut/api"
	"offcut/rat"
)

const noFunction = "edge: no function to guard"

// Guard is what a function tells, if it does not panic.
func Guard(f func() rat.Rat) (out rat.Rat, e api.Errno) {
	// This stands if f does not come back: what recover tells may be nil after a panic, too.
	e = api.ErrArg
	defer func() { _ = recover() }()
	told := ask(f)
	return rat.Make(told.Num, told.Den), api.OK
}

// ask is what f tells. That there is no f is a panic as any of f's own, so that Guard answers both in one way.
func ask(f func() rat.Rat) rat.Rat {
	if f == nil {
		panic(noFunction)
	}
	return f()
}
