package export

import "mortise/api"

// reader reads what a writer writes, each struct by a method of its own; where it can't go on, it refuses.
type reader struct {
	left []byte
}

// refuse gives up, since there is no unit of such bytes.
func refuse() {
	panic(api.ErrForm)
}

// unsummed are the bytes ahead of the last number, which has to be their sum.
func unsummed(b []byte) []byte {
	r := &reader{left: b}
	ahead := r.take(len(b) - wordSize)
	if r.word() != Sum(ahead) {
		refuse()
	}
	return ahead
}

// take are the next bytes, of which there have to be so many.
func (r *reader) take(n int) []byte {
	if n < 0 || n > len(r.left) {
		refuse()
	}
	taken := r.left[:n]
	r.left = r.left[n:]
	return taken
}

// want takes bytes that have to stand here.
func (r *reader) want(bytes string) {
	if string(r.take(len(bytes))) != bytes {
		refuse()
	}
}

// end refuses, if anything is left.
func (r *reader) end() {
	if len(r.left) > 0 {
		refuse()
	}
}

func (r *reader) word() int64 {
	var bits uint64
	for i, c := range r.take(wordSize) {
		bits |= uint64(c) << (8 * i)
	}
	return int64(bits)
}

// number is a word that an int can hold: it may be narrower.
func (r *reader) number() int {
	word := r.word()
	n := int(word)
	if int64(n) != word {
		refuse()
	}
	return n
}

func (r *reader) flag() bool {
	n := r.word()
	if n != 0 && n != 1 {
		refuse()
	}
	return n == 1
}

func (r *reader) text() string {
	return string(r.take(r.number()))
}

// list reads a list, each part of it by part. No room is made ahead: bytes may tell of more parts than there are.
func list[T any](r *reader, part func(*reader) T) []T {
	n := r.number()
	if n < 0 {
		refuse()
	}
	var parts []T
	for range n {
		parts = append(parts, part(r))
	}
	return parts
}

func (r *reader) unit() api.Unit {
	return api.Unit{
		Pkg:     r.text(),
		Imports: list(r, (*reader).imported),
		Decls:   list(r, (*reader).decl),
		Bodies:  list(r, (*reader).body),
	}
}

func (r *reader) imported() api.Import {
	return api.Import{Name: r.text(), Hash: r.word()}
}

func (r *reader) decl() api.Decl {
	return api.Decl{
		Kind:   r.number(),
		Name:   r.text(),
		Of:     r.text(),
		Value:  r.word(),
		Type:   r.typ(),
		Fields: list(r, (*reader).field),
	}
}

func (r *reader) field() api.Field {
	return api.Field{Name: r.text(), Type: r.typ()}
}

func (r *reader) typ() api.Type {
	return api.Type{
		Kind: r.number(),
		Pkg:  r.text(),
		Name: r.text(),
		Args: list(r, (*reader).typ),
		Res:  list(r, (*reader).typ),
	}
}

func (r *reader) body() api.MFunc {
	return api.MFunc{
		Name:   r.text(),
		Weak:   r.flag(),
		Params: r.number(),
		Locals: r.number(),
		Body:   list(r, (*reader).stat),
	}
}

func (r *reader) stat() api.MStat {
	return api.MStat{
		Op:    r.number(),
		N:     r.word(),
		Exprs: list(r, (*reader).expr),
		Body:  list(r, (*reader).stat),
		Else:  list(r, (*reader).stat),
	}
}

func (r *reader) expr() api.MExpr {
	return api.MExpr{
		Op:   r.number(),
		N:    r.word(),
		Name: r.text(),
		Kids: list(r, (*reader).expr),
	}
}
