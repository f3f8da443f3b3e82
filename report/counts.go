package report

import "slices"

// tally tells how often each key stands in a list, by what key tells of its items.
func tally[T any, K comparable](list []T, key func(T) K) map[K]int {
	counts := map[K]int{}
	for _, item := range list {
		counts[key(item)]++
	}
	return counts
}

// sorted tells the keys that were counted, each once: a map gives them in any order, and that must not be seen.
func sorted[K comparable](counts map[K]int, order func(one, other K) int) []K {
	keys := make([]K, 0, len(counts))
	for key := range counts {
		keys = append(keys, key)
	}
	slices.SortFunc(keys, order)
	return keys
}

// beyond tells the keys that were counted more often in one list than in another, each as often as it is there more often, sorted.
func beyond[K comparable](counts, less map[K]int, order func(one, other K) int) []K {
	var list []K
	for _, key := range sorted(counts, order) {
		for range counts[key] - less[key] { // none, where it is below 0
			list = append(list, key)
		}
	}
	return list
}
