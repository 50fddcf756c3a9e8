package lookup

import (
	"cmp"
	"protean/api"
	"protean/state"
	"slices"
)

// order is below 0 where the object's atom stands ahead of x, and 0 where it is x.
func order(l api.Loc, x api.Atom) int {
	return cmp.Or(cmp.Compare(l.Atom.Kind, x.Kind), cmp.Compare(l.Atom.N, x.N))
}

// sorted is the objects by their atoms; those of one atom stay in their order, as the first of them counts.
func sorted(locs []api.Loc) []api.Loc {
	byAtom := func(a, b api.Loc) int { return order(a, b.Atom) }
	if slices.IsSortedFunc(locs, byAtom) {
		return locs
	}
	locs = slices.Clone(locs)
	slices.SortStableFunc(locs, byAtom)
	return locs
}

// shape is the shape of the atom's object among those that are sorted; the zero Shape, if there is none.
func shape(locs []api.Loc, x api.Atom) api.Shape {
	// A chain of prototypes asks for many objects: none of them is to be sought through all that stand ahead of it.
	i, there := slices.BinarySearchFunc(locs, x, order)
	if !there {
		return api.Shape{}
	}
	o, _ := state.Loc(api.State{Locs: locs[i:]}, x)
	return o
}
