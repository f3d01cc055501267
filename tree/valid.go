package tree

import (
	"mortise/api"
	"mortise/word"
)

// What a module has at most; a word's number is at most mostOffset.
const (
	mostParts  = 20000
	mostName   = 60
	mostParams = 16
	mostLocals = 2000
	mostCode   = 999
	mostOffset = 1<<31 - 1
)

// What the N of a part is.
const (
	isZero = iota
	isAny
	isLocal
	isBin
	isUn
	isOffset
	isCode
	isLoop
)

// shape is what a part of some Op has: how many expressions, and what N is; further a Name, a Body, an Else.
type shape struct {
	least int
	most  int
	n     int
	name  bool
	body  bool
	other bool
}

var exprShapes = [...]shape{
	api.EConst:  {n: isAny},
	api.ELocal:  {n: isLocal},
	api.EBin:    {least: 2, most: 2, n: isBin},
	api.EUn:     {least: 1, most: 1, n: isUn},
	api.ELoad:   {least: 1, most: 1, n: isOffset},
	api.ECall:   {most: mostParams, name: true},
	api.ECallAt: {least: 1, most: mostParams + 1},
	api.EData:   {name: true},
	api.ECode:   {name: true},
	api.EAlloc:  {least: 1, most: 1},
	api.EIn:     {},
	api.ECond:   {least: 3, most: 3},
	api.ECheck:  {least: 2, most: 2, n: isCode},
}

var statShapes = [...]shape{
	api.SSet:    {least: 1, most: 1, n: isLocal},
	api.SStore:  {least: 2, most: 2, n: isOffset},
	api.SDo:     {least: 1, most: 1},
	api.SOut:    {least: 1, most: 1},
	api.SIf:     {least: 1, most: 1, body: true, other: true},
	api.SLoop:   {body: true},
	api.SBreak:  {n: isLoop},
	api.SNext:   {n: isLoop},
	api.SReturn: {most: 1},
	api.STrap:   {n: isCode},
}

// Valid tells whether tree code may be run.
func Valid(m api.Module) api.Errno {
	if isTooLarge(m) {
		return api.ErrLimit
	}
	if !funcsFit(m.Funcs) || !datasFit(m.Datas) {
		return api.ErrForm
	}
	return api.OK
}

func isTooLarge(m api.Module) bool {
	c := counter{most: mostParts}
	for i := range m.Funcs {
		c.stats(m.Funcs[i].Body)
	}
	words := 0
	for i := range m.Datas {
		words += len(m.Datas[i].Words)
	}
	return c.n > mostParts || words > api.MaxData
}

func isName(s string) bool {
	return len(s) >= 1 && len(s) <= mostName
}

func funcsFit(l []api.MFunc) bool {
	seen := make(map[string]struct{}, len(l))
	for i := range l {
		f := &l[i]
		if _, twice := seen[f.Name]; twice || !isName(f.Name) {
			return false
		}
		seen[f.Name] = struct{}{}
		if f.Params < 0 || f.Params > mostParams || f.Locals < f.Params || f.Locals > mostLocals {
			return false
		}
		if !(spot{locals: f.Locals}).stats(f.Body) {
			return false
		}
	}
	return true
}

func datasFit(l []api.MData) bool {
	seen := make(map[string]struct{}, len(l))
	for i := range l {
		d := &l[i]
		if _, twice := seen[d.Name]; twice || !isName(d.Name) || !refsFit(d) {
			return false
		}
		seen[d.Name] = struct{}{}
	}
	return true
}

func refsFit(d *api.MData) bool {
	taken := make([]bool, len(d.Words))
	for _, ref := range d.Refs {
		if ref.At < 0 || ref.At >= len(taken) || taken[ref.At] || !isName(ref.Name) {
			return false
		}
		taken[ref.At] = true
	}
	return true
}

// spot is where a part stands: in so many others, of which so many are loops, in a function with so many locals.
type spot struct {
	locals int
	depth  int
	loops  int
}

func (at spot) stats(l []api.MStat) bool {
	for i := range l {
		if !at.stat(&l[i]) {
			return false
		}
	}
	return true
}

func (at spot) stat(s *api.MStat) bool {
	if s.Op < 1 || s.Op >= len(statShapes) || at.depth > api.MaxDepth {
		return false
	}
	has := statShapes[s.Op]
	if len(s.Body) > 0 && !has.body || len(s.Else) > 0 && !has.other {
		return false
	}
	if !has.count(len(s.Exprs)) || !at.number(has.n, s.N) {
		return false
	}
	at.depth++
	if !at.exprs(s.Exprs) {
		return false
	}
	if s.Op == api.SLoop {
		at.loops++
	}
	return at.stats(s.Body) && at.stats(s.Else)
}

func (at spot) exprs(l []api.MExpr) bool {
	for i := range l {
		if !at.expr(&l[i]) {
			return false
		}
	}
	return true
}

func (at spot) expr(e *api.MExpr) bool {
	if e.Op < 1 || e.Op >= len(exprShapes) || at.depth > api.MaxDepth {
		return false
	}
	has := exprShapes[e.Op]
	if !has.count(len(e.Kids)) || !at.number(has.n, e.N) {
		return false
	}
	if has.name && !isName(e.Name) || !has.name && e.Name != "" {
		return false
	}
	at.depth++
	return at.exprs(e.Kids)
}

func (s shape) count(n int) bool {
	return n >= s.least && n <= s.most
}

// number tells whether n may be the N of a part that stands here.
func (at spot) number(kind int, n int64) bool {
	switch kind {
	case isAny:
		return true
	case isLocal:
		return n >= 0 && n < int64(at.locals)
	case isBin:
		_, none := word.Bin(int(n), 1, 1)
		return none == 0
	case isUn:
		_, none := word.Un(int(n), 1)
		return none == 0
	case isOffset:
		return n >= 0 && n <= mostOffset
	case isCode:
		return n >= 1 && n <= mostCode
	case isLoop:
		return n >= 0 && n < int64(at.loops)
	}
	return n == 0
}
