package show

import "mortise/api"

// writer writes the tokens of a tree that is in the table, each part of the grammar by a method of its own.
type writer struct {
	text []byte
	// Whether a node stood where the grammar has none of its kind: then what is written means nothing.
	wrong bool
}

// put writes tokens, with a blank between any two.
func (w *writer) put(tokens ...string) {
	for _, token := range tokens {
		if len(w.text) > 0 {
			w.text = append(w.text, ' ')
		}
		w.text = append(w.text, token...)
	}
}

// list writes parts with commas between.
func (w *writer) list(parts []api.Node, part func(api.Node)) {
	for i, n := range parts {
		if i > 0 {
			w.put(",")
		}
		part(n)
	}
}

// refuse tells that a node can't stand where it does.
func (w *writer) refuse() {
	w.wrong = true
}

// is refuses a node that is of another kind.
func (w *writer) is(n api.Node, kind int) bool {
	if n.Kind != kind {
		w.refuse()
	}
	return n.Kind == kind
}

// quoted is a string's token.
func quoted(s string) string {
	token := []byte{'"'}
	for i := range len(s) {
		switch s[i] {
		case '\n':
			token = append(token, '\\', 'n')
		case '"', '\\':
			token = append(token, '\\', s[i])
		default:
			token = append(token, s[i])
		}
	}
	return string(append(token, '"'))
}
