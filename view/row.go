package view

import (
	"slices"

	"gemot/api"
)

// Row tells whether processes are a row.
func Row(l []int) bool {
	ahead := 0
	for _, p := range l {
		if p <= ahead || p > api.MaxProcs {
			return false
		}
		ahead = p
	}
	return len(l) > 0
}

// Has, Same, Both and Without are of any lists, rows or not.
func Has(l []int, p int) bool { return among(l)(p) }

func Same(a, b []int) bool { return slices.Equal(a, b) }

func Both(a, b []int) []int { return keep(a, among(b)) }

func Without(a, b []int) []int {
	in := among(b)
	return keep(a, func(p int) bool { return !in(p) })
}

// among is what tells whether a process is in a list. It asks a sorted copy, so that of two long lists not each of one is held against each of the other.
func among(l []int) func(p int) bool {
	sorted := slices.Sorted(slices.Values(l))
	return func(p int) bool {
		_, in := slices.BinarySearch(sorted, p)
		return in
	}
}

// keep is those of a list that are wanted, in its order.
func keep(l []int, wanted func(p int) bool) []int {
	var kept []int
	for _, p := range l {
		if wanted(p) {
			kept = append(kept, p)
		}
	}
	return kept
}
