package object

import (
	"cmp"
	"protean/api"
	"protean/atoms"
	"slices"
)

// byName is below 0 where the names of two properties rise, and 0 where they are the same.
func byName(a, b api.Field) int {
	return cmp.Compare(a.Name, b.Name)
}

// place is where the property of the name stands among those that rise, or would stand, and whether it is there.
func place(fields []api.Field, name string) (int, bool) {
	return slices.BinarySearchFunc(fields, api.Field{Name: name}, byName)
}

// find is the property of the name among those that rise, and whether it is there. One that is not there is the zero Field: not sure, and nothing that it may be.
func find(fields []api.Field, name string) (api.Field, bool) {
	i, there := place(fields, name)
	if !there {
		return api.Field{}, false
	}
	return fields[i], true
}

// copied is a property that shares no memory with f.
func copied(f api.Field) api.Field {
	f.Vals = slices.Clone(f.Vals)
	return f
}

// joined is the properties that rise in a, in b, or in both.
func joined(a, b []api.Field) []api.Field {
	both := make([]api.Field, 0, len(a)+len(b))
	for _, f := range a {
		g, _ := find(b, f.Name)
		both = append(both, api.Field{Name: f.Name, Sure: f.Sure && g.Sure, Vals: atoms.Union(f.Vals, g.Vals)})
	}
	for _, g := range b {
		if _, there := find(a, g.Name); !there {
			g.Sure = false
			both = append(both, copied(g))
		}
	}
	slices.SortFunc(both, byName)
	return both
}

// within tells whether each property of a is one of b, sure where it is sure there, and with no more that it may be, and each sure one of b is one of a.
func within(a, b []api.Field) bool {
	for _, f := range a {
		g, there := find(b, f.Name)
		if !there || g.Sure && !f.Sure || !atoms.Within(f.Vals, g.Vals) {
			return false
		}
	}
	for _, g := range b {
		if _, there := find(a, g.Name); g.Sure && !there {
			return false
		}
	}
	return true
}

// written is a shape whose property of the name is changed by write; one that was not there is changed from one that is perhaps there, with nothing that it may be.
func written(s api.Shape, name string, write func(f *api.Field)) api.Shape {
	if !May(s) {
		return api.Shape{}
	}
	fields := slices.Clone(s.Fields)
	for i, f := range fields {
		fields[i] = copied(f)
	}
	i, there := place(fields, name)
	if !there {
		fields = slices.Insert(fields, i, api.Field{Name: name})
	}
	write(&fields[i])
	return api.Shape{Fields: fields, Proto: slices.Clone(s.Proto)}
}
