package update

import (
	"cmp"
	"protean/api"
	"protean/object"
	"protean/state"
	"slices"
)

// every tells of each object that it is changed.
func every(api.Atom) bool {
	return true
}

// among tells of the objects that v tells that they are changed.
func among(v []api.Atom) func(x api.Atom) bool {
	told := map[api.Atom]struct{}{}
	for _, x := range v {
		told[x] = struct{}{}
	}
	return func(x api.Atom) bool {
		_, in := told[x]
		return in
	}
}

// changed is s, in memory of its own, in which the shapes of these objects are changed; the zero State, if s may not be.
func changed(s api.State, these func(x api.Atom) bool, change func(o api.Shape) api.Shape) api.State {
	// Of a state that may be, joined with a dead one, comes that state itself.
	s = state.Join(s, api.State{Dead: true})
	for i, l := range s.Locs {
		if these(l.Atom) {
			s.Locs[i].Shape = change(l.Shape)
		}
	}
	return s
}

// rising is the names, each once, rising.
func rising(names []string) []string {
	names = slices.Clone(names)
	slices.Sort(names)
	return slices.Compact(names)
}

// weakened is o with w among what each of the names may be, which rise, none twice; it may be in the memory of o.
func weakened(o api.Shape, names []string, w []api.Atom) api.Shape {
	var fields []api.Field
	rest := o.Fields
	for _, name := range names {
		// Each name is written to the piece that ends with it: written to all of o, each would lay all properties anew.
		end, there := slices.BinarySearchFunc(rest, name, byName)
		if there {
			end++
		}
		piece := object.Weak(api.Shape{Fields: rest[:end]}, name, w)
		fields = append(fields, piece.Fields...)
		rest = rest[end:]
	}
	return api.Shape{Fields: append(fields, rest...), Proto: o.Proto}
}

// byName is below 0 where the property's name stands ahead of the other one, and 0 where it is this one.
func byName(f api.Field, name string) int {
	return cmp.Compare(f.Name, name)
}
