package graph_test

import (
	"slices"

	"mortise/api"
)

// The functions of this file tell the chapter a second time, as its words stand, with no thought of how long it takes.

// modelImports are the names that a package imports.
func modelImports(needs [][]string, i int) []string {
	if i < len(needs) {
		return needs[i]
	}
	return nil
}

// modelNext is the package that comes next, or -1.
func modelNext(names []string, needs [][]string, there []int) int {
	next := -1
	for i, name := range names {
		ready := !slices.Contains(there, i)
		for _, need := range modelImports(needs, i) {
			ready = ready && slices.ContainsFunc(there, func(k int) bool { return names[k] == need })
		}
		if ready && (next < 0 || name < names[next]) {
			next = i
		}
	}
	return next
}

func modelOrder(names []string, needs [][]string) ([]int, int, api.Errno) {
	if len(names) > api.MaxPackages {
		return nil, 0, api.ErrLimit
	}
	for i := range names {
		for k := range i {
			if names[i] == names[k] {
				return nil, i, api.ErrTwice
			}
		}
	}
	for i := range names {
		for _, need := range modelImports(needs, i) {
			if !slices.Contains(names, need) {
				return nil, i, api.ErrName
			}
		}
	}
	var there []int
	for next := modelNext(names, needs, there); next >= 0; next = modelNext(names, needs, there) {
		there = append(there, next)
	}
	for i := range names {
		if !slices.Contains(there, i) {
			return nil, i, api.ErrCycle
		}
	}
	return there, 0, api.OK
}

func modelBelow(names []string, needs [][]string, at int) []int {
	if _, _, e := modelOrder(names, needs); e != api.OK || at < 0 || at >= len(names) {
		return nil
	}
	below := []int{at}
	for grown := true; grown; {
		grown = false
		for _, i := range slices.Clone(below) {
			for k := range names {
				if slices.Contains(modelImports(needs, i), names[k]) && !slices.Contains(below, k) {
					below = append(below, k)
					grown = true
				}
			}
		}
	}
	slices.Sort(below)
	return below
}

// maker makes the same things in each run.
type maker struct{ state uint64 }

// upTo is a number below n.
func (m *maker) upTo(n int) int {
	m.state = m.state*6364136223846793005 + 1442695040888963407
	return int(m.state >> 33 % uint64(n))
}

func pick[T any](m *maker, of ...T) T { return of[m.upTo(len(of))] }

// shuffled is a copy of a list in another order.
func shuffled[T any](m *maker, list []T) []T {
	list = slices.Clone(list)
	for i := range list {
		k := i + m.upTo(len(list)-i)
		list[i], list[k] = list[k], list[i]
	}
	return list
}

// pool are unlike names, in no order, among them all whose order bytes tell otherwise than letters do.
func (m *maker) pool() []string {
	return shuffled(m, []string{"", "\x00", "A", "B", "Z", "a", "aa", "ab", "b", "z", "é", "\xff", "\x80a", "a\x00", "main", "日", "10", "9"})
}

// packages are packages of which each imports some of those that stand ahead of it in some order.
func (m *maker) packages() ([]string, [][]string) {
	n := m.upTo(api.MaxPackages + 1)
	names := m.pool()[:n]
	needs := make([][]string, n)
	order := shuffled(m, names)
	dense := 1 + m.upTo(4)
	for i, name := range names {
		for _, need := range shuffled(m, order[:slices.Index(order, name)]) {
			if m.upTo(dense) == 0 {
				needs[i] = append(needs[i], need)
			}
		}
	}
	return names, needs
}

// spoilt are packages in which something is made wrong, or not.
func (m *maker) spoilt() ([]string, [][]string) {
	names, needs := m.packages()
	for range m.upTo(4) {
		if len(names) == 0 || m.upTo(9) == 0 {
			names = append(names, m.pool()[0])
			continue
		}
		i, k := m.upTo(len(names)), m.upTo(len(names))
		switch m.upTo(5) {
		case 0:
			names[i] = names[k]
		case 1:
			names[i] = m.pool()[0]
		case 2:
			needs = needs[:min(i, len(needs))]
		case 3:
			needs = append(needs, []string{m.pool()[0]})
		case 4:
			if i < len(needs) {
				needs[i] = append(needs[i], names[k])
			}
		}
	}
	return names, needs
}
