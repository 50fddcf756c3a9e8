package state

import (
	"iter"
	"slices"
)

// place is the first place of a list at which something is the same as x by that order, and whether there is one; if there is none, it is where x would stand among those that rise.
func place[T any](l []T, x T, order func(x, y T) int) (int, bool) {
	// States that may not be are asked, too, so the list may stand in any order.
	would := 0
	for i, y := range l {
		switch c := order(y, x); {
		case c == 0:
			return i, true
		case c < 0:
			would = i + 1
		}
	}
	return would, false
}

// put is a list that rises with x at its place, instead of what was the same by that order; it may be in the memory of l.
func put[T any](l []T, x T, order func(x, y T) int) []T {
	i, there := place(l, x, order)
	if !there {
		return slices.Insert(l, i, x)
	}
	l[i] = x
	return l
}

// paired yields what stands in two lists that rise, by that order: two that are the same by it together, and one that is not in the other list with nil in the other's place.
func paired[T any](a, b []T, order func(x, y T) int) iter.Seq2[*T, *T] {
	return func(yield func(x, y *T) bool) {
		i, j := 0, 0
		for i < len(a) || j < len(b) {
			var x, y *T
			if j == len(b) || i < len(a) && order(a[i], b[j]) <= 0 {
				x = &a[i]
			}
			if i == len(a) || j < len(b) && order(a[i], b[j]) >= 0 {
				y = &b[j]
			}
			if x != nil {
				i++
			}
			if y != nil {
				j++
			}
			if !yield(x, y) {
				return
			}
		}
	}
}
