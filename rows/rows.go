// Package rows puts the endings of a text in order.
package rows

import (
	"cmp"
	"slices"
)

// pair stands for the first bytes of an ending: the ranks of their two halves.
type pair struct {
	first, second int
}

func (p pair) compare(q pair) int {
	return cmp.Or(cmp.Compare(p.first, q.first), cmp.Compare(p.second, q.second))
}

// Sort tells the place of each row. The width of what is compared doubles from
// round to round: comparing whole endings would take long where a text repeats itself.
func Sort(text string) []int {
	places := make([]int, len(text)+1)
	for i := range places {
		places[i] = i
	}
	ranks := firstRanks(text)
	for width := 1; width <= len(text); width *= 2 {
		pairs := pairUp(ranks, width)
		slices.SortFunc(places, func(a, b int) int { return pairs[a].compare(pairs[b]) })
		ranks = rankBy(places, pairs)
	}
	return places
}

// firstRanks ranks the endings by their first byte; the empty one is below all.
func firstRanks(text string) []int {
	ranks := make([]int, len(text)+1)
	for i := range len(text) {
		ranks[i] = int(text[i]) + 1
	}
	return ranks
}

// pairUp joins to each ending's rank that of the ending width bytes on. Where
// there is none, the first rank is already unlike all others: no second is needed.
func pairUp(ranks []int, width int) []pair {
	pairs := make([]pair, len(ranks))
	for i, rank := range ranks {
		pairs[i].first = rank
		if i+width < len(ranks) {
			pairs[i].second = ranks[i+width]
		}
	}
	return pairs
}

// rankBy ranks endings that are in order by their pairs; like pairs, like ranks.
func rankBy(places []int, pairs []pair) []int {
	ranks := make([]int, len(places))
	for row := 1; row < len(places); row++ {
		here, ahead := places[row], places[row-1]
		ranks[here] = ranks[ahead]
		if pairs[here] != pairs[ahead] {
			ranks[here]++
		}
	}
	return ranks
}

// Root tells the row with the place 0.
func Root(places []int) int { return slices.Index(places, 0) }

// Column tells the bytes of all rows but the root's.
func Column(text string, places []int) []byte {
	column := make([]byte, 0, len(text))
	for _, place := range places {
		if place > 0 {
			column = append(column, text[place-1])
		}
	}
	return column
}
