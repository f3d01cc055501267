package tree_test

import (
	"math"
	"strings"
	"testing"

	"mortise/api"
	"mortise/tree"
)

// parts are all parts of a module, to be changed.
type parts struct {
	stats []*api.MStat
	exprs []*api.MExpr
}

func (p *parts) addStats(l []api.MStat) {
	for i := range l {
		p.stats = append(p.stats, &l[i])
		p.addExprs(l[i].Exprs)
		p.addStats(l[i].Body)
		p.addStats(l[i].Else)
	}
}

func (p *parts) addExprs(l []api.MExpr) {
	for i := range l {
		p.exprs = append(p.exprs, &l[i])
		p.addExprs(l[i].Kids)
	}
}

// number is one of those that are edges somewhere.
func (m *maker) number() int64 {
	return []int64{0, 1, 2, 3, 4, 8, 9, 16, 17, 18, 60, 61, 999, 1000, 1999, 2000, 2001, 1<<31 - 1, 1 << 31, 1<<32 + 1, -1, math.MinInt64, math.MaxInt64}[m.upTo(23)]
}

func (m *maker) name() string {
	return []string{"", "f0", "d1", strings.Repeat("n", 60), strings.Repeat("n", 61)}[m.upTo(5)]
}

// change changes one thing of a module; it may still be valid.
func (m *maker) change(x *api.Module) {
	var p parts
	for i := range x.Funcs {
		p.addStats(x.Funcs[i].Body)
	}
	switch m.upTo(8) {
	case 0:
		m.changeFunc(&x.Funcs[m.upTo(len(x.Funcs))])
	case 1:
		m.changeData(&x.Datas[m.upTo(len(x.Datas))])
	case 2, 3, 4:
		m.changeStat(p.stats[m.upTo(len(p.stats))])
	default:
		if len(p.exprs) > 0 {
			m.changeExpr(p.exprs[m.upTo(len(p.exprs))])
		}
	}
}

func (m *maker) changeFunc(f *api.MFunc) {
	switch m.upTo(4) {
	case 0:
		f.Name = m.name()
	case 1:
		f.Params = int(m.number())
	case 2:
		f.Locals = int(m.number())
	case 3:
		f.Params, f.Locals = int(m.number()), int(m.number())
	}
}

func (m *maker) changeData(d *api.MData) {
	switch m.upTo(4) {
	case 0:
		d.Name = m.name()
	case 1:
		d.Refs = append(d.Refs, api.Ref{At: m.upTo(5), Name: "x"})
	case 2:
		d.Refs = append(d.Refs, api.Ref{At: int(m.number()), Name: m.name()})
	case 3:
		d.Words = d.Words[:len(d.Words)/2]
	}
}

func (m *maker) changeStat(s *api.MStat) {
	switch m.upTo(7) {
	case 0:
		s.Op = m.upTo(14) - 1
	case 1, 2:
		s.N = m.number()
	case 3:
		s.Exprs = m.exprs(m.upTo(3))
	case 4:
		s.Body = m.stats(m.upTo(3))
	case 5:
		s.Else = m.stats(m.upTo(3))
	case 6:
		*s = deepStat(m.upTo(110), *s)
	}
}

func (m *maker) changeExpr(e *api.MExpr) {
	switch m.upTo(6) {
	case 0:
		e.Op = m.upTo(16) - 1
	case 1, 2:
		e.N = m.number()
	case 3:
		e.Name = m.name()
	case 4:
		e.Kids = m.exprs(m.upTo(5) * m.upTo(5))
	case 5:
		*e = deepExpr(m.upTo(110), *e)
	}
}

// modelValid is 15.1 said once more, of modules that are not too large.
func modelValid(m api.Module) bool {
	names := map[string]int{}
	named := func(kind, s string) bool {
		names[kind+s]++
		return names[kind+s] == 1 && len(s) > 0 && len(s) <= 60
	}
	for _, f := range m.Funcs {
		if !named("function ", f.Name) || f.Params < 0 || f.Params > 16 || f.Params > f.Locals || f.Locals > 2000 || !modelStats(f.Body, f.Locals, "") {
			return false
		}
	}
	for _, d := range m.Datas {
		places := map[int]int{}
		if !named("datas ", d.Name) {
			return false
		}
		for _, r := range d.Refs {
			places[r.At]++
			if places[r.At] > 1 || r.At < 0 || r.At >= len(d.Words) || r.Name == "" || len(r.Name) > 60 {
				return false
			}
		}
	}
	return true
}

// modelStats: path has a letter for each part that these stand in: l for a loop.
func modelStats(l []api.MStat, locals int, path string) bool {
	for _, s := range l {
		n, loops := s.N, int64(strings.Count(path, "l"))
		local, far, loop, trap := n >= 0 && n < int64(locals), n >= 0 && n < 1<<31, n >= 0 && n < loops, n > 0 && n < 1000
		form := [...]struct {
			n           bool
			least, most int
			body, other int
		}{{}, {local, 1, 1, 0, 0}, {far, 2, 2, 0, 0}, {n == 0, 1, 1, 0, 0}, {n == 0, 1, 1, 0, 0}, {n == 0, 1, 1, 1, 1}, {n == 0, 0, 0, 1, 0}, {loop, 0, 0, 0, 0}, {loop, 0, 0, 0, 0}, {n == 0, 0, 1, 0, 0}, {trap, 0, 0, 0, 0}}
		if s.Op < 1 || s.Op > 10 || len(path) > 100 {
			return false
		}
		f := form[s.Op]
		if !f.n || len(s.Exprs) < f.least || len(s.Exprs) > f.most || len(s.Body) > 0 && f.body == 0 || len(s.Else) > 0 && f.other == 0 {
			return false
		}
		letter := "s"
		if s.Op == api.SLoop {
			letter = "l"
		}
		if !modelExprs(s.Exprs, locals, path+letter) || !modelStats(s.Body, locals, path+letter) || !modelStats(s.Else, locals, path+letter) {
			return false
		}
	}
	return true
}

func modelExprs(l []api.MExpr, locals int, path string) bool {
	for _, e := range l {
		n, kids, named := e.N, len(e.Kids), len(e.Name) > 0 && len(e.Name) < 61
		bare := e.Name == ""
		ok := len(path) <= 100
		switch e.Op {
		case api.EConst:
			ok = ok && kids == 0 && bare
		case api.ELocal:
			ok = ok && kids == 0 && bare && n >= 0 && n < int64(locals)
		case api.EBin:
			ok = ok && kids == 2 && bare && n >= 1 && n <= 16
		case api.EUn:
			ok = ok && kids == 1 && bare && n >= 1 && n <= 3
		case api.ELoad:
			ok = ok && kids == 1 && bare && n >= 0 && n < 1<<31
		case api.ECall:
			ok = ok && kids < 17 && named && n == 0
		case api.ECallAt:
			ok = ok && kids > 0 && kids < 18 && bare && n == 0
		case api.EData, api.ECode:
			ok = ok && kids == 0 && named && n == 0
		case api.EAlloc:
			ok = ok && kids == 1 && bare && n == 0
		case api.EIn:
			ok = ok && kids == 0 && bare && n == 0
		case api.ECond:
			ok = ok && kids == 3 && bare && n == 0
		case api.ECheck:
			ok = ok && kids == 2 && bare && n > 0 && n < 1000
		default:
			ok = false
		}
		if !ok || !modelExprs(e.Kids, locals, path+"e") {
			return false
		}
	}
	return true
}

// TestBroken holds Valid against the model where one thing was changed (15.1); what is not valid is not run, and nothing of it is small (15.2, 15.3).
func TestBroken(t *testing.T) {
	var count [2]int
	for seed := range 20000 {
		m := &maker{state: uint64(seed) + 1<<50}
		x := m.rest()
		m.left = 20
		m.change(&x)
		want, at := api.OK, 0
		if !modelValid(x) {
			want, at = api.ErrForm, 1
		}
		count[at]++
		if e := tree.Valid(x); e != want {
			t.Fatalf("15.1: seed %d: %d, want %d", seed, e, want)
		}
		if want == api.OK {
			continue
		}
		if o := tree.Run(list(x), nil, 100, nil, 0); o.Kind != api.RunFault {
			t.Fatalf("15.3: seed %d: %+v", seed, o)
		}
		if l := tree.Small(x); len(l) != 0 {
			t.Fatalf("15.2: seed %d: %+v", seed, l)
		}
	}
	if count[0] < 3000 || count[1] < 3000 {
		t.Error("too few of a kind:", count)
	}
}
