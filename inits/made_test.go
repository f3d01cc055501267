package inits_test

import (
	"fmt"
	"slices"
	"testing"

	"mortise/api"
	"mortise/check"
	"mortise/inits"
	"mortise/parse"
)

// vars are the vars that were made, as the text has them.
func (m *maker) vars() []*symbol {
	return slices.DeleteFunc(slices.Clone(m.made), func(s *symbol) bool { return s.sort != aVar })
}

// reached are all symbols that one names, that those name, and so on.
func reached(s *symbol) map[*symbol]int {
	all := map[*symbol]int{}
	wait := []*symbol{s}
	for len(wait) > 0 {
		first := wait[0]
		wait = wait[1:]
		for named := range first.names {
			if all[named] == 0 {
				wait = append(wait, named)
			}
			all[named]++
		}
	}
	return all
}

// needs are for each var that was made the numbers of those that it needs.
func (m *maker) needs() [][]int {
	var needs [][]int
	for _, s := range m.vars() {
		all := reached(s)
		var list []int
		for i, other := range m.vars() {
			if all[other] > 0 {
				list = append(list, i)
			}
		}
		needs = append(needs, list)
	}
	return needs
}

// order is the vars' order; else the number of the var that needs itself, and false.
func (m *maker) order() ([]int, int, bool) {
	vars, needs := m.vars(), m.needs()
	for i := range vars {
		if slices.Contains(needs[i], i) {
			return nil, i, false
		}
	}
	var order []int
	waits := func(i int) bool { return !vars[i].bare && !slices.Contains(order, i) }
	for again := true; again; {
		again = false
		for i := range vars {
			if waits(i) && !slices.ContainsFunc(needs[i], waits) {
				order = append(order, i)
				again = true
				break
			}
		}
	}
	return order, 0, true
}

// checkMade holds what is answered of a made package against how it was made, and tells whether it has a ring.
func checkMade(t *testing.T, m *maker, n api.Node, us []api.Unit) bool {
	t.Helper()
	for i, want := range m.needs() {
		if needs := inits.Needs(n, us, i); !slices.Equal(needs, want) {
			t.Fatalf("11.1: %s: var %d: %v, want %v", m.written, i, needs, want)
		}
	}
	order, at, e := inits.Order(n, us)
	want, first, ok := m.order()
	if !ok {
		if len(order) > 0 || e != api.ErrCycle || at != varsOf(n)[first].At {
			t.Fatalf("11.2: %s: %v, %d at %d, want a ring at var %d", m.written, order, e, at, first)
		}
		return true
	}
	if !slices.Equal(order, want) || at != 0 || e != api.OK {
		t.Fatalf("11.2: %s: %v, %d at %d, want %v", m.written, order, e, at, want)
	}
	for place, i := range order {
		for _, need := range inits.Needs(n, us, i) {
			if !m.vars()[need].bare && !slices.Contains(order[:place], need) {
				t.Fatalf("11.3: %s: %v: %d stands ahead of %d", m.written, order, i, need)
			}
		}
	}
	return false
}

// 11.1, 11.2, 11.3: made packages, whose places are then turned.
func TestMadePackages(t *testing.T) {
	us := unitsOf(t, textOfQ)
	seen := map[string]int{}
	for round := range 400 {
		m := &maker{state: uint64(round), left: 50 + round%3*60, falls: round%4 > 0}
		m.write()
		n, at, e := parse.Parse(m.written)
		if e == api.OK {
			_, _, at, e = check.Check(n, us)
		}
		if e == api.ErrForm || e == api.ErrLong || e == api.ErrDeep {
			seen["too long"]++
			continue
		}
		if e != api.OK {
			t.Fatalf("%s: %d at %d: %s", m.written, e, at, m.written[at:])
		}
		if checkMade(t, m, n, us) {
			seen["rings"]++
		}
		checkMade(t, m, placed(n, pick(m, placings()...)), us)
		seen["hidden"] += min(1, m.hidden)
		for _, s := range m.made {
			for other := range s.names {
				seen[fmt.Sprint(s.sort, " names ", other.sort)]++
			}
		}
	}
	if seen["too long"] > 20 || seen["rings"] < 60 || seen["hidden"] < 150 {
		t.Errorf("how they were: %v", seen)
	}
	for i := range 9 {
		if names := fmt.Sprint(i/3, " names ", i%3); seen[names] < 80 {
			t.Errorf("%s: %d times", names, seen[names])
		}
	}
}
