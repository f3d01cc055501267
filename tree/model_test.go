package tree_test

import (
	"math/big"

	"mortise/api"
	"mortise/word"
)

// The chapter said once more: functions are made flat, and run with stacks of their own.

const (
	oStep = iota
	oPush
	oLocal
	oBin
	oUn
	oLoad
	oCall
	oCallAt
	oData
	oCode
	oAlloc
	oIn
	oJump
	oZero
	oTrap
	oSet
	oStore
	oPop
	oOut
	oReturn
)

type order struct {
	do   int
	n    int64
	to   int
	name string
}

// flat is a function made flat.
type flat struct {
	api.MFunc
	code   []order
	breaks [][]int // of the loops that are open: orders that are to lead behind them
	tops   []int
}

func (f *flat) emit(do int, n int64) int {
	f.code = append(f.code, order{do: do, n: n})
	return len(f.code) - 1
}

func (f *flat) here(at int) { f.code[at].to = len(f.code) }

func (f *flat) exprs(l []api.MExpr) {
	for _, e := range l {
		f.expr(e)
	}
}

func (f *flat) expr(e api.MExpr) {
	f.emit(oStep, 0)
	switch e.Op {
	case api.ECond:
		f.expr(e.Kids[0])
		no := f.emit(oZero, 0)
		f.expr(e.Kids[1])
		end := f.emit(oJump, 0)
		f.here(no)
		f.expr(e.Kids[2])
		f.here(end)
		return
	case api.ECheck:
		f.expr(e.Kids[0])
		bad := f.emit(oZero, 0)
		good := f.emit(oJump, 0)
		f.here(bad)
		f.emit(oTrap, e.N)
		f.here(good)
		f.expr(e.Kids[1])
		return
	}
	f.exprs(e.Kids)
	do := [...]int{api.EConst: oPush, api.ELocal: oLocal, api.EBin: oBin, api.EUn: oUn, api.ELoad: oLoad, api.ECall: oCall, api.ECallAt: oCallAt, api.EData: oData, api.ECode: oCode, api.EAlloc: oAlloc, api.EIn: oIn}[e.Op]
	n := e.N
	if do == oCall || do == oCallAt {
		n = int64(len(e.Kids))
	}
	f.code = append(f.code, order{do: do, n: n, name: e.Name})
}

func (f *flat) stats(l []api.MStat) {
	for _, s := range l {
		f.emit(oStep, 0)
		f.exprs(s.Exprs)
		f.stat(s)
	}
}

func (f *flat) stat(s api.MStat) {
	loops := len(f.tops)
	switch s.Op {
	case api.SSet:
		f.emit(oSet, s.N)
	case api.SStore:
		f.emit(oStore, s.N)
	case api.SDo:
		f.emit(oPop, 0)
	case api.SOut:
		f.emit(oOut, 0)
	case api.STrap:
		f.emit(oTrap, s.N)
	case api.SIf:
		no := f.emit(oZero, 0)
		f.stats(s.Body)
		end := f.emit(oJump, 0)
		f.here(no)
		f.stats(s.Else)
		f.here(end)
	case api.SLoop:
		top := f.emit(oStep, 0)
		f.tops, f.breaks = append(f.tops, top), append(f.breaks, nil)
		f.stats(s.Body)
		f.code[f.emit(oJump, 0)].to = top
		for _, at := range f.breaks[loops] {
			f.here(at)
		}
		f.tops, f.breaks = f.tops[:loops], f.breaks[:loops]
	case api.SBreak:
		which := loops - 1 - int(s.N)
		f.breaks[which] = append(f.breaks[which], f.emit(oJump, 0))
	case api.SNext:
		f.code[f.emit(oJump, 0)].to = f.tops[loops-1-int(s.N)]
	case api.SReturn:
		if len(s.Exprs) == 0 {
			f.emit(oPush, 0)
		}
		f.emit(oReturn, 0)
	}
}

// modelRun is a run of flat functions.
type modelRun struct {
	funcs  []*flat
	places map[string]int
	mem    []int64
	top    int
	in     string
	o      api.Outcome
	over   bool
	values []int64
	open   []opened
	at     opened
}

// opened is a call that is open: where it is, and its locals.
type opened struct {
	f      *flat
	pc     int
	locals []int64
}

func model(ms []api.Module, begin []string, mem int, in string, fuel int) api.Outcome {
	r := &modelRun{places: map[string]int{}, mem: make([]int64, mem), top: 1, in: in}
	if r.join(ms) {
		fuel = max(0, min(fuel, api.MaxFuel))
		for _, name := range begin {
			r.enter(r.number(name), nil)
			for len(r.open) > 0 && !r.over {
				i := r.at.f.code[r.at.pc]
				r.at.pc++
				if i.do == oStep && r.o.Steps == fuel {
					return r.o
				}
				r.obey(i)
			}
			r.values = nil
		}
		r.stop(api.RunDone, 0)
	}
	return r.o
}

// stop ends the run, if it is not over.
func (r *modelRun) stop(kind, code int) {
	if !r.over {
		r.over, r.o.Kind, r.o.Code = true, kind, code
	}
}

// counts tells whether of those names, in ms' order, the one at that place counts.
func counts(names []string, weak []bool, at int) bool {
	for i, name := range names {
		if name == names[at] && (i < at && (weak[at] || !weak[i]) || i > at && weak[at] && !weak[i]) {
			return false
		}
	}
	return true
}

func (r *modelRun) join(ms []api.Module) bool {
	var fs []api.MFunc
	var ds []api.MData
	var fNames, dNames []string
	var fWeak, dWeak []bool
	for _, m := range ms {
		for _, f := range m.Funcs {
			fs, fNames, fWeak = append(fs, f), append(fNames, f.Name), append(fWeak, f.Weak)
		}
		for _, d := range m.Datas {
			ds, dNames, dWeak = append(ds, d), append(dNames, d.Name), append(dWeak, d.Weak)
		}
	}
	for i, f := range fs {
		if counts(fNames, fWeak, i) {
			made := &flat{MFunc: f}
			made.stats(f.Body)
			made.emit(oPush, 0)
			made.emit(oReturn, 0)
			r.funcs = append(r.funcs, made)
		}
	}
	for i, d := range ds {
		if !counts(dNames, dWeak, i) {
			continue
		}
		if r.top+len(d.Words) > len(r.mem) {
			r.stop(api.RunMemory, 0)
			return false
		}
		r.places[d.Name] = r.top
		r.top += copy(r.mem[r.top:], d.Words)
	}
	for i, d := range ds {
		for _, ref := range d.Refs {
			if counts(dNames, dWeak, i) {
				r.mem[r.places[d.Name]+ref.At] = r.named(ref.Name)
			}
		}
	}
	return true
}

func (r *modelRun) named(name string) int64 {
	if at, is := r.places[name]; is {
		return int64(at)
	}
	return r.number(name)
}

// number is the number of a function, or 0.
func (r *modelRun) number(name string) int64 {
	for i, f := range r.funcs {
		if f.Name == name {
			return int64(i + 1)
		}
	}
	return 0
}

func (r *modelRun) enter(n int64, args []int64) {
	if r.over {
		return
	}
	if n < 1 || n > int64(len(r.funcs)) || r.funcs[n-1].Params != len(args) {
		r.stop(api.RunFault, 0)
		return
	}
	if len(r.open) == 1200 {
		r.stop(api.RunStack, 0)
		return
	}
	f := r.funcs[n-1]
	r.open = append(r.open, r.at)
	r.at = opened{f: f, locals: append(append([]int64(nil), args...), make([]int64, f.Locals-len(args))...)}
}

func (r *modelRun) push(v int64) { r.values = append(r.values, v) }

func (r *modelRun) pop() int64 { return r.popped(1)[0] }

func (r *modelRun) popped(n int64) []int64 {
	at := len(r.values) - int(n)
	l := r.values[at:]
	r.values = r.values[:at:at]
	return l
}

// word is the place of a word of memory, or 0, which ends the run.
func (r *modelRun) word(at, n int64) int64 {
	sum := new(big.Int).Add(big.NewInt(at), big.NewInt(n))
	if sum.Sign() <= 0 || sum.Cmp(big.NewInt(int64(r.top))) >= 0 {
		r.stop(api.RunFault, 0)
		return 0
	}
	return sum.Int64()
}

func (r *modelRun) obey(i order) {
	switch i.do {
	case oStep:
		r.o.Steps++
	case oPush:
		r.push(i.n)
	case oLocal:
		r.push(r.at.locals[i.n])
	case oBin:
		l := r.popped(2)
		v, e := word.Bin(int(i.n), l[0], l[1])
		if e != 0 {
			r.stop(api.RunPanic, e)
		}
		r.push(v)
	case oUn:
		v, _ := word.Un(int(i.n), r.pop())
		r.push(v)
	case oCall:
		r.enter(r.number(i.name), r.popped(i.n))
	case oCallAt:
		l := r.popped(i.n)
		r.enter(l[0], l[1:])
	case oJump:
		r.at.pc = i.to
	case oZero:
		if r.pop() == 0 {
			r.at.pc = i.to
		}
	case oTrap:
		r.stop(api.RunPanic, int(i.n))
	case oSet:
		r.at.locals[i.n] = r.pop()
	case oPop:
		r.pop()
	case oReturn:
		r.at = r.open[len(r.open)-1]
		r.open = r.open[:len(r.open)-1]
	default:
		r.outside(i)
	}
}

// outside is what has to do with memory, names and bytes.
func (r *modelRun) outside(i order) {
	switch i.do {
	case oLoad:
		r.push(r.mem[r.word(r.pop(), i.n)])
	case oStore:
		l := r.popped(2)
		r.mem[r.word(l[0], i.n)] = l[1]
	case oData:
		at, is := r.places[i.name]
		if !is {
			r.stop(api.RunFault, 0)
		}
		r.push(int64(at))
	case oCode:
		n := r.number(i.name)
		if n == 0 {
			r.stop(api.RunFault, 0)
		}
		r.push(n)
	case oAlloc:
		n := r.pop()
		switch {
		case n < 0:
			r.stop(api.RunFault, 0)
		case n > int64(len(r.mem)-r.top):
			r.stop(api.RunMemory, 0)
		default:
			r.push(int64(r.top))
			r.top += int(n)
		}
	case oIn:
		v := int64(-1)
		if r.in != "" {
			v, r.in = int64(r.in[0]), r.in[1:]
		}
		r.push(v)
	case oOut:
		r.o.Out = append(r.o.Out, byte(r.pop()))
		r.o.Out = r.o.Out[:min(len(r.o.Out), api.MaxOut)]
	}
}
