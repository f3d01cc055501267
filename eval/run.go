package eval

import "mortise/api"

// run is how far a program's run has come.
type run struct {
	fuel int
	left int // of the fuel
	cost int
	in   []byte // what is still to be read
	out  []byte
	open int // calls
	need int // words that the open calls need
	most int // the most that they needed
}

// ended is what a run gives up with, and how it ended.
type ended struct {
	kind int
	code int
}

func newRun(in []byte, fuel int) *run {
	fuel = max(0, min(fuel, api.MaxFuel))
	return &run{fuel: fuel, left: fuel, in: in}
}

// ending does something, and tells how it ended.
func ending(do func()) (over ended) {
	defer func() {
		if gave := recover(); gave != nil {
			over = gave.(ended)
		}
	}()
	do()
	return ended{kind: api.RunDone}
}

// panics ends a run by a panic of the program.
func panics(code int) {
	panic(ended{kind: api.RunPanic, code: code})
}

// steps is how many steps were taken.
func (r *run) steps() int {
	return r.fuel - r.left
}

// take takes steps, all that are left where these are fewer: there the run is over.
func (r *run) take(steps int) {
	if steps > r.left {
		r.left = 0
		panic(ended{kind: api.RunFuel})
	}
	r.left -= steps
}

// enter opens a call, if there is room for it.
func (r *run) enter(need int) {
	if r.open == api.MaxOpen {
		panic(ended{kind: api.RunStack})
	}
	r.open++
	r.need += need
	r.most = max(r.most, r.need)
}

func (r *run) leave(need int) {
	r.open--
	r.need -= need
}

// do calls a func: nil is asked for only here, behind what was evaluated for the call.
func (r *run) do(called value, args []value) value {
	f, is := called.(*function)
	if !is {
		panics(api.PanicNil)
	}
	made := f.routine
	r.enter(made.need)
	r.cost += made.cost
	c := &call{scope: newScope(made.size, f.scope), kinds: f.kinds}
	for i, v := range f.receiver {
		c.scope.vars[i] = &v
	}
	for i, v := range args {
		c.scope.vars[len(f.receiver)+i] = &v
	}
	made.body(c)
	r.leave(made.need)
	return c.result
}

// read is the next byte of the input, or -1.
func (r *run) read() int64 {
	if len(r.in) == 0 {
		return -1
	}
	next := r.in[0]
	r.in = r.in[1:]
	return int64(next)
}

func (r *run) write(n int64) {
	if len(r.out) < api.MaxOut {
		r.out = append(r.out, byte(n))
	}
}
