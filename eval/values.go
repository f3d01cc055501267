package eval

import (
	"mortise/api"
)

// value is what an expression comes to: an int64, a bool, a string, a *record, a *slice, a *function; or nil, whatever it is nil of.
type value any

// record is a struct's variables, to which a pointer leads.
type record struct {
	of     *structure
	fields []value
}

// slice is a slice that is not nil: an array, a place in it, a length and a capacity are what the cells are in themselves.
type slice struct {
	cells []value
}

// function is a func that is not nil, with what belongs to it.
type function struct {
	routine  *routine
	scope    *scope  // the variables that are known where a literal stands
	kinds    []int   // of the types in the place of type variables
	receiver []value // of a method that was named by x.m: x
}

// routine is a function, a method, or a function's literal, made to be run.
type routine struct {
	need int // words that a call of it needs
	cost int // of its type variables and parameters
	size int // how many variables its call's scope has in the end
	body stat
}

// call is a call that is open.
type call struct {
	scope  *scope
	kinds  []int // of the types in the place of type variables
	result value
}

// scope has the variables of a call, or of a round of a block, with those about them. They are pointers, and the scope is one: functions' literals that are made in it share them.
type scope struct {
	vars  []*value
	about *scope
}

func newScope(size int, about *scope) *scope {
	return &scope{vars: make([]*value, size), about: about}
}

// zero is the zero value of types of a kind.
func zero(kind int) value {
	switch kind {
	case api.TInt:
		return int64(0)
	case api.TBool:
		return false
	case api.TText:
		return ""
	}
	return nil
}

// notNil is a pointer that may not be nil, as one that becomes an interface.
func notNil(v value) value {
	if v == nil {
		panics(api.PanicNil)
	}
	return v
}

// fieldOf is a field of the struct that a pointer leads to.
func fieldOf(v value, at int) *value {
	r, is := v.(*record)
	if !is {
		panics(api.PanicNil)
	}
	return &r.fields[at]
}

// cellsOf are the elements of a slice.
func cellsOf(v value) []value {
	s, is := v.(*slice)
	if !is {
		return nil
	}
	return s.cells
}

// elementOf is an element of a slice.
func elementOf(v value, at int64) *value {
	cells := cellsOf(v)
	checkIndex(at, len(cells))
	return &cells[at]
}

func checkIndex(at int64, length int) {
	if at < 0 || at >= int64(length) {
		panics(api.PanicIndex)
	}
}

// itemOf is an element of a slice, or a byte of a string.
func itemOf(v value, at int64) value {
	switch of := v.(type) {
	case string:
		checkIndex(at, len(of))
		return int64(of[at])
	default:
		return *elementOf(of, at)
	}
}

func lengthOf(v value) int64 {
	switch of := v.(type) {
	case string:
		return int64(len(of))
	default:
		return int64(len(cellsOf(of)))
	}
}

// array is so many elements, all of them alike.
func array(length int, each value) []value {
	cells := make([]value, length)
	for i := range cells {
		cells[i] = each
	}
	return cells
}
