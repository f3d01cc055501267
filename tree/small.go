package tree

import (
	"math"
	"strings"

	"mortise/api"
)

// smallest is how many parts a small function has at most.
const smallest = 12

// Small are the functions that may be done where they are called.
func Small(m api.Module) []api.MFunc {
	if Valid(m) != api.OK {
		return nil
	}
	var list []api.MFunc
	for _, f := range m.Funcs {
		if isSmall(f) {
			list = append(list, copyFunc(f))
		}
	}
	return list
}

func isSmall(f api.MFunc) bool {
	if len(f.Body) != 1 || f.Body[0].Op != api.SReturn || len(f.Body[0].Exprs) == 0 {
		return false
	}
	return Size(f) <= smallest && isPlain(f.Body[0].Exprs[0])
}

// isPlain tells that an expression neither calls nor checks, takes no memory and reads nothing.
func isPlain(e api.MExpr) bool {
	switch e.Op {
	case api.ECall, api.ECallAt, api.ECheck, api.EAlloc, api.EIn:
		return false
	}
	for _, kid := range e.Kids {
		if !isPlain(kid) {
			return false
		}
	}
	return true
}

// copyFunc shares nothing with f, which has one statement, without others in it.
func copyFunc(f api.MFunc) api.MFunc {
	s := f.Body[0]
	s.Exprs = copyExprs(s.Exprs)
	f.Name = strings.Clone(f.Name)
	f.Body = []api.MStat{s}
	return f
}

func copyExprs(l []api.MExpr) []api.MExpr {
	var list []api.MExpr
	for _, e := range l {
		e.Name = strings.Clone(e.Name)
		e.Kids = copyExprs(e.Kids)
		list = append(list, e)
	}
	return list
}

// Size is how many statements and expressions f has.
func Size(f api.MFunc) int {
	c := counter{most: math.MaxInt}
	c.stats(f.Body)
	return c.n
}

// counter counts parts, whatever they are; it stops behind the most that is asked for.
type counter struct {
	n    int
	most int
}

func (c *counter) stats(l []api.MStat) {
	for i := range l {
		if c.n > c.most {
			return
		}
		c.n++
		c.exprs(l[i].Exprs)
		c.stats(l[i].Body)
		c.stats(l[i].Else)
	}
}

func (c *counter) exprs(l []api.MExpr) {
	for i := range l {
		if c.n > c.most {
			return
		}
		c.n++
		c.exprs(l[i].Kids)
	}
}
