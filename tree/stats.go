package tree

import "mortise/api"

// frame is a call that is open.
type frame struct {
	*runner
	locals []int64
	answer int64
}

// How one goes on behind a statement; behind a break or a next with the number of loops that are left on the way.
const (
	goOn = iota
	doBreak
	doNext
	doReturn
)

func (f *frame) stats(l []api.MStat) (how int, loops int64) {
	for i := range l {
		if how, loops = f.stat(&l[i]); how != goOn {
			return how, loops
		}
	}
	return goOn, 0
}

func (f *frame) stat(s *api.MStat) (how int, loops int64) {
	f.step()
	switch s.Op {
	case api.SSet:
		f.locals[s.N] = f.value(&s.Exprs[0])
	case api.SStore:
		f.store(s)
	case api.SDo:
		f.value(&s.Exprs[0])
	case api.SOut:
		f.write(f.value(&s.Exprs[0]))
	case api.SIf:
		if f.value(&s.Exprs[0]) != 0 {
			return f.stats(s.Body)
		}
		return f.stats(s.Else)
	case api.SLoop:
		return f.loop(s.Body)
	case api.SBreak:
		return doBreak, s.N
	case api.SNext:
		return doNext, s.N
	case api.SReturn:
		if len(s.Exprs) > 0 {
			f.answer = f.value(&s.Exprs[0])
		}
		return doReturn, 0
	case api.STrap:
		panic(end{kind: api.RunPanic, code: int(s.N)})
	}
	return goOn, 0
}

// store reckons what is stored ahead of asking whether there is such a word: kids go first.
func (f *frame) store(s *api.MStat) {
	at := f.value(&s.Exprs[0])
	v := f.value(&s.Exprs[1])
	*f.cell(at + s.N) = v
}

func (f *frame) loop(body []api.MStat) (how int, loops int64) {
rounds:
	for {
		f.step()
		how, loops = f.stats(body)
		switch {
		case how == goOn, how == doNext && loops == 0:
			continue rounds
		case how == doBreak && loops == 0:
			break rounds
		case how == doReturn:
			return doReturn, 0
		}
		return how, loops - 1
	}
	return goOn, 0
}
