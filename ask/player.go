package ask

import (
	"strings"

	"mortise/api"
	"mortise/eval"
)

// player keeps what passes between a package and what is around it.
type player struct {
	answers []int64 // that are left
	events  []api.Event
}

func (p *player) tell(kind int, name string, args []int64) {
	p.events = append(p.events, api.Event{Kind: kind, Name: name, Args: args})
}

// outside is what the package names of others; the functions there are questions.
func (p *player) outside(found []outer) []eval.Outside {
	var list []eval.Outside
	for _, o := range found {
		list = append(list, eval.Outside{Pkg: o.pkg, Decl: o.decl, Ask: p.question(o)})
	}
	return list
}

// question makes what a call of a function of another package asks: its result is the next answer.
func (p *player) question(o outer) func(args []int64) (int64, bool) {
	hasResult := len(o.decl.Type.Res) > 0
	return func(args []int64) (int64, bool) {
		p.tell(api.EventCall, o.pkg+"."+o.decl.Name, args)
		if !hasResult {
			return 0, true
		}
		if len(p.answers) == 0 {
			return 0, false
		}
		next := p.answers[0]
		p.answers = p.answers[1:]
		return next, true
	}
}

// answered tells what an ask came to.
func (p *player) answered(ask api.Ask, result []int64) {
	p.tell(api.EventAnswer, strings.Clone(ask.Name), result)
}

// end tells how it ended, if that was ahead of the end.
func (p *player) end(o api.Outcome) {
	switch o.Kind {
	case api.RunDone:
	case api.RunPanic:
		p.tell(api.EventPanic, "", []int64{int64(o.Code)})
	default:
		p.tell(api.EventStop, "", nil)
	}
}
