package parse

import "mortise/api"

// fault is what a parser gives up with.
type fault struct {
	at  int
	err api.Errno
}

// reader goes through tokens, the last of which is a TokEnd, and counts the brackets that are open.
type reader struct {
	tokens []api.Token
	here   int
	open   int
}

func (r *reader) token() api.Token {
	return r.tokens[r.here]
}

// take is the token that stands here; the reader goes on behind it.
func (r *reader) take() api.Token {
	token := r.token()
	r.here++
	return token
}

// refuse gives up, since the token that stands here can't stand here.
func (r *reader) refuse() {
	panic(fault{r.token().At, api.ErrText})
}

// mark is the word or the sign that stands here, else empty: a string of the same bytes is none.
func (r *reader) mark() string {
	switch token := r.token(); token.Kind {
	case api.TokWord, api.TokSign:
		return token.Text
	}
	return ""
}

// skip takes a word or a sign, if it stands here.
func (r *reader) skip(mark string) bool {
	if r.mark() != mark {
		return false
	}
	r.here++
	return true
}

// want takes a word or a sign, which has to stand here.
func (r *reader) want(mark string) api.Token {
	if r.mark() != mark {
		r.refuse()
	}
	return r.take()
}

// wantKind takes a token of a kind, which has to stand here.
func (r *reader) wantKind(kind int) api.Token {
	if r.token().Kind != kind {
		r.refuse()
	}
	return r.take()
}

func (r *reader) name() api.Token {
	return r.wantKind(api.TokName)
}

// enter takes a bracket that opens, which has to stand here.
func (r *reader) enter(bracket string) api.Token {
	token := r.want(bracket)
	if r.open == api.MaxDeep {
		panic(fault{token.At, api.ErrDeep})
	}
	r.open++
	return token
}

// leave takes the bracket that closes the one entered last, which has to stand here.
func (r *reader) leave(bracket string) {
	r.want(bracket)
	r.open--
}

// list reads parts with commas between, at least one.
func (r *reader) list(part func() api.Node) []api.Node {
	parts := []api.Node{part()}
	for r.skip(",") {
		parts = append(parts, part())
	}
	return parts
}

// within reads parts with commas between, or nothing, within brackets.
func (r *reader) within(from, to string, part func() api.Node) []api.Node {
	r.enter(from)
	var parts []api.Node
	if r.mark() != to {
		parts = r.list(part)
	}
	r.leave(to)
	return parts
}
