package resolve

import (
	"iter"
	"maps"
	"protean/api"
	"slices"
)

// names are those that stood so far, each once.
type names map[string]struct{}

func (l names) add(more ...string) {
	for _, name := range more {
		l[name] = struct{}{}
	}
}

// rising is a list of the names; the empty one is left away, as it stands where nothing is named.
func (l names) rising() []string {
	delete(l, "")
	return slices.Sorted(maps.Keys(l))
}

// twice tells whether a name stands twice in a list.
func twice(list []string) bool {
	stood := names{}
	stood.add(list...)
	return len(stood) < len(list)
}

// statements yields the statements with their numbers of chapter 4, those in blocks among them. They are not taken from number.List: it answers each one with a copy of its blocks, which for blocks 2^16 deep is more than there is room for.
func statements(l []api.Stmt) iter.Seq2[int, api.Stmt] {
	return func(yield func(int, api.Stmt) bool) {
		n := 0
		rest := [][]api.Stmt{l}
		for len(rest) > 0 {
			last := len(rest) - 1
			if len(rest[last]) == 0 {
				rest = rest[:last]
				continue
			}
			s := rest[last][0]
			rest[last] = rest[last][1:]
			if !yield(n, s) {
				return
			}
			n++
			rest = append(rest, s.Else, s.Then)
		}
	}
}
