package parser

import (
	"slices"

	"arenanet/api"
)

// mostNodes is the number of nodes beyond which a tree is not looked at.
const mostNodes = 1<<16 + 1

// Equal reports whether two syntax trees are equal. It takes trees with more than 2^16 descendants as different.
func Equal(a, b api.Node) bool { return isSmall(a) && same(a, b) }

// isSmall tells whether a tree has at most mostNodes nodes. The slices of a tree that Parse did not make may form a circle, in which
// there would be no end of nodes.
func isSmall(n api.Node) bool { return count(n, mostNodes) <= mostNodes }

// count returns how many nodes a tree has, or some number greater than most.
func count(n api.Node, most int) int {
	total := 1
	for _, kid := range n.Kids {
		if total > most {
			break
		}
		total += count(kid, most-total)
	}
	return total
}

// same tells whether two trees, one of which is small, are equal.
func same(a, b api.Node) bool {
	return a.Kind == b.Kind && a.N == b.N && a.S == b.S && slices.EqualFunc(a.Kids, b.Kids, same)
}
