package eval

import "mortise/api"

// maxMake is how many elements make makes at most.
const maxMake = 1000000

// reckoned is what an operation makes of two ints.
func reckoned(op int, a, b int64) value {
	switch op {
	case api.Add:
		return a + b
	case api.Sub:
		return a - b
	case api.Mul:
		return a * b
	case api.Div:
		checkZero(b)
		return a / b
	case api.Rem:
		checkZero(b)
		return a % b
	case api.Lt:
		return a < b
	case api.Le:
		return a <= b
	case api.Gt:
		return a > b
	}
	return a >= b
}

func checkZero(b int64) {
	if b == 0 {
		panics(api.PanicZero)
	}
}

// same tells whether two values are one. Types are not asked for: only what is alike is held against each other.
func (r *run) same(a, b value) bool {
	one, isText := a.(string)
	other, areTexts := b.(string)
	if isText && areTexts {
		r.take(min(len(one), len(other)))
	}
	return a == b
}

// joined is two strings as one.
func (r *run) joined(a, b string) value {
	length := len(a) + len(b)
	r.take(length)
	r.cost += length + 4
	return a + b
}

// part is x[i:j] of a slice or a string.
func (r *run) part(x value, i, j int64) value {
	switch of := x.(type) {
	case string:
		checkPart(i, j, len(of))
		r.cost += int(j-i) + 4
		return of[i:j]
	case *slice:
		checkPart(i, j, cap(of.cells))
		r.cost += 6
		return &slice{cells: of.cells[i:j]}
	}
	checkPart(i, j, 0)
	r.cost += 6
	return nil
}

func checkPart(i, j int64, room int) {
	if i < 0 || i > j || j > int64(room) {
		panics(api.PanicSlice)
	}
}

// appended is a slice with one more element; each is what the elements hold that are in a new array behind it.
func (r *run) appended(cells []value, v, each value) value {
	length := len(cells)
	if length < cap(cells) {
		r.cost += 6
		cells = cells[:length+1]
		cells[length] = v
		return &slice{cells: cells}
	}
	size := max(4, 2*length)
	r.take(size)
	r.cost += 6 + size
	made := array(size, each)
	copy(made, cells)
	made[length] = v
	return &slice{cells: made[:length+1]}
}

// made is a slice of new elements.
func (r *run) made(n int64, each value) value {
	if n < 0 || n > maxMake {
		panics(api.PanicMake)
	}
	r.take(int(n))
	r.cost += int(n) + 6
	return &slice{cells: array(int(n), each)}
}
