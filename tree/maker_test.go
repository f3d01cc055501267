package tree_test

import (
	"strconv"

	"mortise/api"
)

// maker makes modules that are valid, the same ones in each run.
type maker struct {
	state uint64
	left  int // how much more may be made
	level int // of the function: mostly those of higher levels are called
	loops int // that are open
}

func (m *maker) upTo(n int) int {
	m.state = m.state*6364136223846793005 + 1442695040888963407
	return int(m.state >> 33 % uint64(n))
}

func (m *maker) may(n int) bool { return m.upTo(n) == 0 }

// Of the locals, numbers stand in the first ones, a place in the next, then counts of rounds.
const (
	numbers = 4
	pointer = 4
	rounds  = 5
	locals  = 9
)

const (
	madeFuncs = 7
	madeDatas = 4
)

func funcName(i int) string { return "f" + strconv.Itoa(i) }
func dataName(i int) string { return "d" + strconv.Itoa(i) }

// program is a list of modules, with main in one of them.
func (m *maker) program() []api.Module {
	ms := make([]api.Module, 1+m.upTo(3))
	main := m.upTo(len(ms))
	for i := range ms {
		ms[i].Pkg = strconv.Itoa(i)
		if i == main {
			m.level = -1
			ms[i].Funcs = append(ms[i].Funcs, api.MFunc{Name: "main", Locals: locals, Body: m.body()})
		}
		for k := range madeFuncs {
			if m.may(len(ms)) || m.may(3) {
				m.level = k
				ms[i].Funcs = append(ms[i].Funcs, api.MFunc{Name: funcName(k), Weak: m.may(2), Params: k % 3, Locals: locals, Body: m.body()})
			}
		}
		for k := range madeDatas {
			if m.may(len(ms)) || m.may(3) {
				ms[i].Datas = append(ms[i].Datas, m.data(k))
			}
		}
	}
	if !m.may(8) {
		ms = append(ms, m.rest())
	}
	return ms
}

// rest has something of each name, so that few runs end since there is none.
func (m *maker) rest() api.Module {
	var x api.Module
	for k := range madeFuncs {
		m.level = k
		x.Funcs = append(x.Funcs, api.MFunc{Name: funcName(k), Weak: true, Params: k % 3, Locals: locals, Body: m.body()})
	}
	for k := range madeDatas {
		d := m.data(k)
		d.Weak = true
		x.Datas = append(x.Datas, d)
	}
	return x
}

func (m *maker) data(k int) api.MData {
	d := api.MData{Name: dataName(k), Weak: m.may(2)}
	for at := range m.upTo(5) + []int{3, 3, 3, 3, 3, 3, 0}[m.upTo(7)] {
		d.Words = append(d.Words, m.word())
		if m.may(3) {
			d.Refs = append(d.Refs, api.Ref{At: at, Name: []string{dataName(m.upTo(madeDatas)), funcName(m.upTo(madeFuncs)), "none"}[m.upTo(5)/2]})
		}
	}
	return d
}

func (m *maker) body() []api.MStat {
	m.left, m.loops = 60, 0
	l := []api.MStat{set(pointer, []api.MExpr{data(dataName(m.upTo(madeDatas))), alloc(num(int64(2 + m.upTo(5))))}[m.upTo(3)/2])}
	l = append(l, m.stats(2+m.upTo(4))...)
	return append(l, ret(m.expr()))
}

func (m *maker) stats(n int) []api.MStat {
	var l []api.MStat
	for range n {
		if m.left > 0 {
			l = append(l, m.stat())
		}
	}
	return l
}

func (m *maker) stat() api.MStat {
	m.left--
	switch m.upTo(20) {
	case 0, 1, 2, 3:
		return set(int64(m.upTo(numbers)), m.expr())
	case 4, 5, 6:
		return out(m.expr())
	case 7, 8:
		return store(int64(m.upTo(3)), m.pointer(), m.expr())
	case 9:
		return do(m.expr())
	case 10, 11, 12:
		return when(m.expr(), m.stats(1+m.upTo(3)), m.stats(m.upTo(2))...)
	case 13, 14, 15:
		if m.loops < locals-rounds {
			return m.loop()
		}
	case 16:
		if m.may(6) {
			return ret(many(m.upTo(2), m.expr())...)
		}
	case 17, 18:
		if m.loops > 0 {
			n := int64(m.upTo(m.loops))
			return when(m.expr(), list([]api.MStat{brk(n), next(n)}[m.upTo(2)]))
		}
	case 19:
		if m.may(12) {
			return trap(int64(1 + m.upTo(999)))
		}
	}
	return set(int64(m.upTo(numbers)), in())
}

// loop goes through a few rounds, as long as nothing else sets its count.
func (m *maker) loop() api.MStat {
	count := int64(rounds + m.loops)
	m.loops++
	l := list(set(count, bin(api.Add, loc(count), num(1))), when(bin(api.Gt, loc(count), num(int64(1+m.upTo(3)))), list(brk(0))))
	l = append(l, m.stats(1+m.upTo(3))...)
	m.loops--
	if m.may(2) {
		l[0], l[len(l)-1] = l[len(l)-1], l[0]
	}
	return loop(l...)
}

// pointer is mostly the place of words that there are.
func (m *maker) pointer() api.MExpr {
	switch m.upTo(12) {
	case 0, 1:
		return data(dataName(m.upTo(madeDatas)))
	case 2:
		return alloc(num(int64([]int{4, 4, 3, 3, 1}[m.upTo(5)])))
	case 3:
		if m.may(6) {
			return []api.MExpr{m.expr(), load(0, loc(pointer))}[m.upTo(2)]
		}
	}
	return loc(pointer)
}

func (m *maker) word() int64 {
	if m.may(12) {
		return []int64{-1 << 63, 1<<63 - 1, 1 << 32, 1<<31 - 1, 255, 256, -256}[m.upTo(7)]
	}
	return int64(m.upTo(12)) - 3
}

func (m *maker) exprs(n int) []api.MExpr {
	var l []api.MExpr
	for range n {
		l = append(l, m.expr())
	}
	return l
}

func (m *maker) expr() api.MExpr {
	m.left--
	if m.left <= 0 {
		return []api.MExpr{num(m.word()), loc(int64(m.upTo(numbers)))}[m.upTo(2)]
	}
	switch m.upTo(24) {
	case 0, 1, 2, 3:
		return num(m.word())
	case 4, 5, 6:
		return loc(int64(m.upTo(locals)))
	case 7, 8, 9, 10, 11:
		op := int64(api.Add + m.upTo(api.Ge))
		if (op == api.Div || op == api.Rem) && !m.may(4) {
			return bin(op, m.expr(), num(3))
		}
		return bin(op, m.expr(), m.expr())
	case 12, 13:
		return un(int64(1+m.upTo(3)), m.expr())
	case 14, 15, 16:
		return load(int64(m.upTo(3)), m.pointer())
	case 17, 18:
		return m.call()
	case 19:
		return alloc(num(int64(m.upTo(5)) - int64(m.upTo(40)/39)))
	case 20:
		return in()
	case 21:
		return cond(m.expr(), m.expr(), m.expr())
	case 22:
		return check(int64(1+m.upTo(999)), []api.MExpr{m.expr(), num(1), loc(pointer)}[m.upTo(10)*3/10], m.expr())
	}
	return []api.MExpr{data(dataName(m.upTo(madeDatas))), code(funcName(m.upTo(madeFuncs)))}[m.upTo(2)]
}

// call mostly calls what is above, with as many arguments as it has parameters.
func (m *maker) call() api.MExpr {
	k := m.level + 1 + m.upTo(3)
	if m.may(30) {
		k = m.upTo(madeFuncs)
	}
	if k >= madeFuncs {
		return in()
	}
	args := m.exprs(k % 3)
	if m.may(60) {
		args = append(args, num(1))
	}
	if m.may(3) {
		return at(append(list(code(funcName(k))), args...)...)
	}
	return call(funcName(k), args...)
}
