package eval

import (
	"mortise/api"
	"mortise/prog"
)

// Outside is what a package that is run alone names of another one: a const, or a function of ints.
type Outside struct {
	Pkg  string
	Decl api.Decl
	Ask  func(args []int64) (int64, bool) // what a call of the function asks: its result (0 of one without), and whether it has an answer
}

// Alone runs a package without those that it imports: its vars begin, then functions of ints that it declares are called, one behind the other. It tells how that ended (RunFault, where a call of a function of another package had no answer), but not what was written. Each ask's result, one or none, is told at once.
func Alone(pack prog.Pack, outside []Outside, asks []api.Ask, answered func(ask api.Ask, result []int64), fuel int) api.Outcome {
	r := newRun(nil, fuel)
	p := newProgram(r, nil)
	for _, o := range outside {
		p.declareOutside(o)
	}
	p.add([]prog.Pack{pack})
	over := ending(func() {
		p.begin()
		for _, ask := range asks {
			answered(ask, p.answer(pack.Unit.Pkg, ask))
		}
	})
	return api.Outcome{Kind: over.kind, Code: over.code, Steps: r.steps()}
}

// declareOutside declares what another package does, of which nothing else is there.
func (p *program) declareOutside(o Outside) {
	is := symbol{pkg: o.Pkg, name: o.Decl.Name}
	if o.Decl.Kind == api.DConst {
		p.consts[is] = o.Decl.Value
		return
	}
	made := p.newRoutine(o.Pkg + "." + o.Decl.Name)
	made.size = len(o.Decl.Type.Args)
	made.body = question(o.Ask)
	p.routines[is] = made
}

// question makes the body of a function whose result somebody else tells.
func question(ask func(args []int64) (int64, bool)) stat {
	return func(c *call) after {
		var args []int64
		for _, v := range c.scope.vars {
			args = append(args, (*v).(int64))
		}
		result, is := ask(args)
		if !is {
			panic(ended{kind: api.RunFault})
		}
		c.result = result
		return returns
	}
}

// answer is the result of a function that is asked, one or none.
func (p *program) answer(pkg string, ask api.Ask) []int64 {
	var args []value
	for _, n := range ask.Args {
		args = append(args, n)
	}
	if result, is := p.called(pkg, ask.Name, args).(int64); is {
		return []int64{result}
	}
	return nil
}
