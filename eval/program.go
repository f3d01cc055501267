package eval

import (
	"mortise/api"
	"mortise/kinds"
	"mortise/prog"
)

// program is all that a program's packages declare, and how it is begun.
type program struct {
	run      *run
	units    []api.Unit
	frames   map[string]int // of the code, by its names
	vars     map[symbol]*value
	consts   map[symbol]int64
	routines map[symbol]*routine
	structs  map[symbol]*structure
	begins   []beginning
}

// symbol is what a package declares: of a method of is its struct.
type symbol struct {
	pkg  string
	of   string
	name string
}

// structure is a struct that a package declares.
type structure struct {
	pointer api.Type // to it
	names   []string // of its fields
	zeros   []value
	methods map[string]*routine
	has     map[symbol]int // whether it has an interface's methods, 1 or 0, of those that were asked for
}

// beginning is what begins a package's vars.
type beginning struct {
	need  int
	steps []func()
}

// newProgram is a program that has no packages yet.
func newProgram(r *run, frames map[string]int) *program {
	return &program{
		run:      r,
		frames:   frames,
		vars:     map[symbol]*value{},
		consts:   map[symbol]int64{},
		routines: map[symbol]*routine{},
		structs:  map[symbol]*structure{},
	}
}

// add makes all that packages declare, before anything of it: what is made of a text may name all of it.
func (p *program) add(packs []prog.Pack) {
	for _, pack := range packs {
		p.units = append(p.units, pack.Unit)
		p.declare(pack.Unit)
	}
	for _, pack := range packs {
		m := newMaker(p, pack)
		m.fillAll(pack.Tree)
		p.begins = append(p.begins, m.beginning(pack))
	}
}

func (p *program) declare(u api.Unit) {
	for _, d := range u.Decls {
		if d.Kind == api.DStruct {
			p.structs[symbol{pkg: u.Pkg, name: d.Name}] = newStructure(u.Pkg, d)
		}
	}
	for _, d := range u.Decls {
		is := symbol{pkg: u.Pkg, of: d.Of, name: d.Name}
		switch d.Kind {
		case api.DConst:
			p.consts[is] = d.Value
		case api.DVar:
			first := zero(d.Type.Kind)
			p.vars[is] = &first
		case api.DFunc:
			p.routines[is] = p.newRoutine(u.Pkg + "." + d.Name)
		case api.DMethod:
			made := p.newRoutine(u.Pkg + "." + d.Of + "." + d.Name)
			p.routines[is] = made
			p.structs[symbol{pkg: u.Pkg, name: d.Of}].methods[d.Name] = made
		}
	}
}

func newStructure(pkg string, d api.Decl) *structure {
	s := &structure{
		pointer: api.Type{Kind: api.TPtr, Pkg: pkg, Name: d.Name},
		methods: map[string]*routine{},
		has:     map[symbol]int{},
	}
	for _, f := range d.Fields {
		s.names = append(s.names, f.Name)
		s.zeros = append(s.zeros, zero(f.Type.Kind))
	}
	return s
}

// newRoutine is a routine whose body is not made yet.
func (p *program) newRoutine(name string) *routine {
	return &routine{need: p.needOf(name)}
}

// needOf is how many words a call of what has a name needs.
func (p *program) needOf(name string) int {
	return 16 + p.frames[name]
}

// whole runs a whole program: main's main is called behind what begins its packages.
func (p *program) whole() {
	p.begin()
	p.called("main", "main", nil)
}

// begin begins all packages.
func (p *program) begin() {
	for _, b := range p.begins {
		p.run.enter(b.need)
		for _, step := range b.steps {
			step()
		}
		p.run.leave(b.need)
	}
}

// called is the result of a function without type variables that a package declares.
func (p *program) called(pkg, name string, args []value) value {
	return p.run.do(&function{routine: p.routines[symbol{pkg: pkg, name: name}]}, args)
}

// leads tells whether a value is a pointer to a struct that may be held as a pointer's type, or that has all methods of an interface.
func (p *program) leads(v value, to api.Type) bool {
	r, is := v.(*record)
	if !is {
		return false
	}
	if to.Kind == api.TPtr {
		return r.of.pointer.Pkg == to.Pkg && r.of.pointer.Name == to.Name
	}
	return p.hasMethods(r.of, to)
}

// hasMethods keeps what it found: programs ask the same again and again.
func (p *program) hasMethods(s *structure, iface api.Type) bool {
	name := symbol{pkg: iface.Pkg, name: iface.Name}
	has, asked := s.has[name]
	if !asked {
		if kinds.Fits(p.units, nil, s.pointer, iface) {
			has = 1
		}
		s.has[name] = has
	}
	return has == 1
}
