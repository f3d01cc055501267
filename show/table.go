package show

import (
	"math"

	"mortise/api"
	"mortise/lex"
	"mortise/parse"
)

// inTable tells whether each node of a tree has a Text, Pkg, N and Op, and as many kids, as layer 5's table has of its kind somewhere.
func inTable(n api.Node) bool {
	if !textFits(n) || !pkgFits(n) || !opFits(n) || !numberFits(n) || !kidsFit(n) {
		return false
	}
	for _, kid := range n.Kids {
		if !inTable(kid) {
			return false
		}
	}
	return true
}

func textFits(n api.Node) bool {
	switch n.Kind {
	case api.NFile, api.NImport, api.NConst, api.NVar, api.NStruct, api.NField, api.NIface, api.NSig,
		api.NFunc, api.NMethod, api.NTypeVar, api.NParam, api.NDefine, api.NSel, api.NKey, api.NMethodExpr:
		return lex.Name(n.Text)
	case api.NTypeName:
		return lex.Name(n.Text) || n.Pkg == "" && typeWord(n.Text)
	case api.NName:
		return lex.Name(n.Text) || callWord(n.Text)
	case api.NText:
		return canQuote(n.Text)
	}
	return n.Text == ""
}

// typeWord tells whether s is a word that is a type.
func typeWord(s string) bool {
	switch s {
	case "int", "bool", "string":
		return true
	}
	return false
}

// callWord tells whether s is a word that can be called.
func callWord(s string) bool {
	switch s {
	case "len", "append", "panic", "put", "get", "make":
		return true
	}
	return false
}

// canQuote tells whether layer 4 has a string that means s.
func canQuote(s string) bool {
	if len(s) > api.MaxString {
		return false
	}
	for i := range len(s) {
		if s[i] != '\n' && (s[i] < ' ' || s[i] > '~') {
			return false
		}
	}
	return true
}

func pkgFits(n api.Node) bool {
	return n.Pkg == "" || n.Kind == api.NTypeName && lex.Name(n.Pkg)
}

func opFits(n api.Node) bool {
	switch n.Kind {
	case api.NBinary:
		sign, _ := parse.Sign(n.Op)
		return sign != ""
	case api.NUnary:
		return n.Op == api.Neg || n.Op == api.Bang
	}
	return n.Op == 0
}

func numberFits(n api.Node) bool {
	least, most := int64(0), int64(0)
	switch n.Kind {
	case api.NConst:
		// A sign and digits, which are 2^63 - 1 at most.
		least, most = -math.MaxInt64, math.MaxInt64
	case api.NInt:
		most = math.MaxInt64
	case api.NSig, api.NFunc, api.NMethod, api.NFuncOf, api.NFor, api.NBool, api.NFuncLit:
		most = 1
	case api.NTypeVar:
		most = 2
	case api.NSlice:
		most = 3
	}
	return least <= n.N && n.N <= most
}

// kidsFit tells whether a node whose N fits has as many kids as its kind may have.
func kidsFit(n api.Node) bool {
	least, most := kidsOf(n.Kind, int(n.N))
	return least <= len(n.Kids) && len(n.Kids) <= most
}

// kidsOf is how many kids a node of a kind with that N has at least, and at most.
func kidsOf(kind, number int) (int, int) {
	switch kind {
	case api.NFile, api.NStruct, api.NIface, api.NBlock:
		return 0, api.MaxNodes
	case api.NCall, api.NNew, api.NList:
		return 1, api.MaxNodes
	case api.NSig, api.NFuncOf:
		return number, api.MaxNodes
	case api.NFunc, api.NFuncLit:
		return number + 1, api.MaxNodes
	case api.NMethod:
		return number + 2, api.MaxNodes
	case api.NField, api.NParam, api.NPtr, api.NSliceOf, api.NDefine, api.NDo, api.NUnary, api.NSel, api.NKey, api.NMethodExpr:
		return 1, 1
	case api.NAssign, api.NBinary, api.NIndex, api.NAssert:
		return 2, 2
	case api.NVar:
		return 1, 2
	case api.NReturn:
		return 0, 1
	case api.NIf:
		return 2, 3
	case api.NFor:
		return number + 1, number + 1
	case api.NTypeVar:
		return number / 2, number / 2
	case api.NSlice:
		bounds := number&1 + number>>1
		return 1 + bounds, 1 + bounds
	}
	return 0, 0
}
