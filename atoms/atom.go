package atoms

import (
	"cmp"
	"protean/api"
	"strconv"
)

// mayBe: the atom is of a kind that there is, with an N that this kind has.
func mayBe(x api.Atom) bool {
	switch x.Kind {
	case api.AtNull, api.AtBool, api.AtNum, api.AtDyn:
		return x.N == 0
	case api.AtFun, api.AtRec, api.AtSum:
		return x.N >= 0
	}
	return false
}

// order is below 0 where the atoms rise, and 0 where they are the same.
func order(a, b api.Atom) int {
	return cmp.Or(cmp.Compare(a.Kind, b.Kind), cmp.Compare(a.N, b.N))
}

// word is the text of one atom. N is told of atoms that may not be, too, but not of the kinds that have none.
func word(x api.Atom) string {
	switch x.Kind {
	case api.AtNull:
		return "null"
	case api.AtBool:
		return "bool"
	case api.AtNum:
		return "num"
	case api.AtFun:
		return "fun" + strconv.Itoa(x.N)
	case api.AtRec:
		return "rec" + strconv.Itoa(x.N)
	case api.AtSum:
		return "sum" + strconv.Itoa(x.N)
	case api.AtDyn:
		return "any"
	}
	return "?"
}
