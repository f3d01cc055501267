package export

import "mortise/api"

// writer writes each struct of api as its fields, in the order in which they stand there.
type writer struct {
	bytes []byte
	// Whether there would be too many bytes: then no more are written.
	long bool
}

// room tells whether so many bytes may still be written.
func (w *writer) room(n int) bool {
	if n > api.MaxBytes-len(w.bytes) {
		w.long = true
	}
	return !w.long
}

func (w *writer) word(n int64) {
	if !w.room(wordSize) {
		return
	}
	for i := range wordSize {
		w.bytes = append(w.bytes, byte(n>>(8*i)))
	}
}

func (w *writer) number(n int) {
	w.word(int64(n))
}

func (w *writer) flag(is bool) {
	if is {
		w.word(1)
	} else {
		w.word(0)
	}
}

func (w *writer) text(s string) {
	w.number(len(s))
	if w.room(len(s)) {
		w.bytes = append(w.bytes, s...)
	}
}

// putList writes a list, each part of it by put.
func putList[T any](w *writer, parts []T, put func(*writer, T)) {
	w.number(len(parts))
	for _, part := range parts {
		if w.long {
			return
		}
		put(w, part)
	}
}

func (w *writer) unit(u api.Unit) {
	w.text(u.Pkg)
	putList(w, u.Imports, (*writer).imported)
	putList(w, u.Decls, (*writer).decl)
	putList(w, u.Bodies, (*writer).body)
}

func (w *writer) imported(i api.Import) {
	w.text(i.Name)
	w.word(i.Hash)
}

func (w *writer) decl(d api.Decl) {
	w.number(d.Kind)
	w.text(d.Name)
	w.text(d.Of)
	w.word(d.Value)
	w.typ(d.Type)
	putList(w, d.Fields, (*writer).field)
}

func (w *writer) field(f api.Field) {
	w.text(f.Name)
	w.typ(f.Type)
}

func (w *writer) typ(t api.Type) {
	w.number(t.Kind)
	w.text(t.Pkg)
	w.text(t.Name)
	putList(w, t.Args, (*writer).typ)
	putList(w, t.Res, (*writer).typ)
}

func (w *writer) body(f api.MFunc) {
	w.text(f.Name)
	w.flag(f.Weak)
	w.number(f.Params)
	w.number(f.Locals)
	putList(w, f.Body, (*writer).stat)
}

func (w *writer) stat(s api.MStat) {
	w.number(s.Op)
	w.word(s.N)
	putList(w, s.Exprs, (*writer).expr)
	putList(w, s.Body, (*writer).stat)
	putList(w, s.Else, (*writer).stat)
}

func (w *writer) expr(e api.MExpr) {
	w.number(e.Op)
	w.word(e.N)
	w.text(e.Name)
	putList(w, e.Kids, (*writer).expr)
}
