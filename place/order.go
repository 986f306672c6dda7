package place

import "slices"

// sortIndexes sorts indexes by ahead, which tells whether what is at i comes ahead of what is at j. Where neither comes
// ahead, the lower index does, so that no two are equal and there is one order only.
func sortIndexes(indexes []int, ahead func(i, j int) bool) {
	slices.SortFunc(indexes, func(i, j int) int {
		switch {
		case ahead(i, j):
			return -1
		case ahead(j, i):
			return 1
		}
		return i - j
	})
}
