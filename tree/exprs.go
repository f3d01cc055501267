package tree

import (
	"mortise/api"
	"mortise/word"
)

func (f *frame) value(e *api.MExpr) int64 {
	f.step()
	switch e.Op {
	case api.EConst:
		return e.N
	case api.ELocal:
		return f.locals[e.N]
	case api.EBin:
		return f.two(e)
	case api.EUn:
		v, _ := word.Un(int(e.N), f.value(&e.Kids[0]))
		return v
	case api.ELoad:
		return *f.cell(f.value(&e.Kids[0]) + e.N)
	case api.ECall:
		args := f.values(e.Kids)
		return f.call(f.number(e.Name), args)
	case api.ECallAt:
		all := f.values(e.Kids)
		return f.call(all[0], all[1:])
	case api.EData:
		return f.place(e.Name)
	case api.ECode:
		return f.number(e.Name)
	case api.EAlloc:
		return f.alloc(f.value(&e.Kids[0]))
	case api.EIn:
		return f.read()
	case api.ECond:
		return f.choose(e)
	}
	return f.check(e)
}

// values are reckoned from left to right.
func (f *frame) values(l []api.MExpr) []int64 {
	list := make([]int64, len(l))
	for i := range l {
		list[i] = f.value(&l[i])
	}
	return list
}

func (f *frame) two(e *api.MExpr) int64 {
	a := f.value(&e.Kids[0])
	b := f.value(&e.Kids[1])
	v, code := word.Bin(int(e.N), a, b)
	if code != 0 {
		panic(end{kind: api.RunPanic, code: code})
	}
	return v
}

func (f *frame) choose(e *api.MExpr) int64 {
	if f.value(&e.Kids[0]) != 0 {
		return f.value(&e.Kids[1])
	}
	return f.value(&e.Kids[2])
}

func (f *frame) check(e *api.MExpr) int64 {
	if f.value(&e.Kids[0]) == 0 {
		panic(end{kind: api.RunPanic, code: int(e.N)})
	}
	return f.value(&e.Kids[1])
}
