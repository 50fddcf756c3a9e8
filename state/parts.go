package state

import (
	"cmp"
	"protean/api"
	"protean/atoms"
	"protean/object"
	"slices"
	"strings"
)

// byName is below 0 where the names of two variables rise, and 0 where they are the same.
func byName(a, b api.Bind) int {
	return cmp.Compare(a.Name, b.Name)
}

// byAtom is below 0 where the atoms of two objects rise, and 0 where they are the same.
func byAtom(a, b api.Loc) int {
	return cmp.Or(cmp.Compare(a.Atom.Kind, b.Atom.Kind), cmp.Compare(a.Atom.N, b.Atom.N))
}

// mayPut tells whether x is the newest or the older ones of a site, and may have the shape o.
func mayPut(x api.Atom, o api.Shape) bool {
	return (x.Kind == api.AtRec || x.Kind == api.AtSum) && atoms.May([]api.Atom{x}) && object.May(o)
}

// vals is what a variable may be; one that is not there is null.
func vals(b *api.Bind) []api.Atom {
	if b == nil {
		return []api.Atom{{Kind: api.AtNull}}
	}
	return b.Vals
}

// joinedVar is one variable of two states; one of x and y may be nil.
func joinedVar(x, y *api.Bind) api.Bind {
	return api.Bind{Name: cmp.Or(x, y).Name, Vals: atoms.Union(vals(x), vals(y))}
}

// joinedLoc is one object of two states; one of x and y may be nil.
func joinedLoc(x, y *api.Loc) api.Loc {
	// Of a shape joined with itself comes that shape, in memory of its own.
	x, y = cmp.Or(x, y), cmp.Or(y, x)
	return api.Loc{Atom: x.Atom, Shape: object.Join(x.Shape, y.Shape)}
}

// copiedShape is a shape that shares no memory with o.
func copiedShape(o api.Shape) api.Shape {
	fields := slices.Clone(o.Fields)
	for i, f := range fields {
		fields[i].Vals = slices.Clone(f.Vals)
	}
	return api.Shape{Fields: fields, Proto: slices.Clone(o.Proto)}
}

// copied is a state that shares no memory with s.
func copied(s api.State) api.State {
	s.Vars, s.Locs = slices.Clone(s.Vars), slices.Clone(s.Locs)
	for i, b := range s.Vars {
		s.Vars[i].Vals = slices.Clone(b.Vals)
	}
	for i, l := range s.Locs {
		s.Locs[i].Shape = copiedShape(l.Shape)
	}
	return s
}

// locText is the line of one object, without its end.
func locText(l api.Loc) string {
	var text strings.Builder
	text.WriteString(atoms.Text([]api.Atom{l.Atom}) + ":")
	for _, f := range l.Shape.Fields {
		mark := "?"
		if f.Sure {
			mark = "!"
		}
		text.WriteString(" " + f.Name + mark + "(" + atoms.Text(f.Vals) + ")")
	}
	text.WriteString(" proto (" + atoms.Text(l.Shape.Proto) + ")")
	return text.String()
}
