package kinds

import "mortise/api"

// Put puts types in the place of variables.
func Put(t api.Type, names []string, ts []api.Type) api.Type {
	p := putter{at: placesOf(names), types: ts}
	return p.put(t)
}

// placesOf has the first place of each name.
func placesOf(names []string) map[string]int {
	places := make(map[string]int, len(names))
	for i, name := range names {
		if _, ok := places[name]; !ok {
			places[name] = i
		}
	}
	return places
}

type putter struct {
	at    map[string]int
	types []api.Type
}

func (p putter) put(t api.Type) api.Type {
	if t.Kind == api.TVar {
		if i, ok := p.at[t.Name]; ok && i < len(p.types) {
			return copied(p.types[i])
		}
	}
	return rebuilt(t, p.put)
}

// Infer finds the types of variables by what is handed to parameters.
func Infer(names []string, params, args []api.Type) ([]api.Type, bool) {
	s := search{at: placesOf(names), found: make([]api.Type, len(names))}
	if !pairs(params, args, s.pair) {
		return nil, false
	}
	if _, lacks := first(names, s.lacks); lacks {
		return nil, false
	}
	return each(names, s.typeOf), true
}

// search is what is found as yet, each name's type at its first place; TNone stands for none, as no name may come to that.
type search struct {
	at    map[string]int
	found []api.Type
}

// pair walks a parameter's type and what is handed to it; no tells that a name came to what it must not be.
func (s search) pair(param, arg api.Type) bool {
	switch {
	case param.Kind == api.TVar:
		return s.take(param.Name, arg)
	case param.Kind == arg.Kind && (param.Kind == api.TSlice || param.Kind == api.TFunc):
		return pairs(param.Args, arg.Args, s.pair) && pairs(param.Res, arg.Res, s.pair)
	}
	return true
}

func (s search) take(name string, arg api.Type) bool {
	i, ok := s.at[name]
	if !ok || s.found[i].Kind != api.TNone {
		return true
	}
	s.found[i] = arg
	return arg.Kind != api.TNil && arg.Kind != api.TNone
}

func (s search) lacks(name string) bool {
	return s.found[s.at[name]].Kind == api.TNone
}

func (s search) typeOf(name string) api.Type {
	return copied(s.found[s.at[name]])
}
