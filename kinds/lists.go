package kinds

// each is a new list of what f makes of each part of a list.
func each[A, B any](list []A, f func(A) B) []B {
	var made []B
	if len(list) > 0 {
		made = make([]B, len(list))
	}
	for i, part := range list {
		made[i] = f(part)
	}
	return made
}

// first is the first part of a list that is wanted, and whether there is one.
func first[A any](list []A, wanted func(A) bool) (A, bool) {
	for _, part := range list {
		if wanted(part) {
			return part, true
		}
	}
	var none A
	return none, false
}

// pairs hands the parts that stand at one place of two lists to f, in order, till it says no; it tells whether it never did.
func pairs[A, B any](a []A, b []B, f func(A, B) bool) bool {
	for i := range min(len(a), len(b)) {
		if !f(a[i], b[i]) {
			return false
		}
	}
	return true
}
