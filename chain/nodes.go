package chain

import (
	"iter"

	"ravel/api"
)

// nodes goes through a list from its Head on, up to what is no node. Of chains that may not be it may go round for ever: who goes through them leaves off at a node that was met.
func nodes(c api.Chains, list int) iter.Seq[int] {
	return func(yield func(int) bool) {
		for node := c.Head[list]; node >= 0 && node < len(c.Next); node = c.Next[node] {
			if !yield(node) {
				return
			}
		}
	}
}

// owners tells of each node the list that it is in (Last: in none), and whether the chains may be. As each list marks its nodes, one is met again whether it is met twice by one list, or by another one.
func owners(c api.Chains) ([]int, bool) {
	if len(c.Next) > api.MaxNodes || len(c.Head) < 1 || len(c.Head) > api.MaxLists || len(c.Tail) != len(c.Head) {
		return nil, false
	}
	in := filled(len(c.Next), api.Last)
	for list, head := range c.Head {
		last, next := api.Last, head
		for node := range nodes(c, list) {
			if in[node] != api.Last {
				return nil, false
			}
			in[node], last, next = list, node, c.Next[node]
		}
		if last != c.Tail[list] || next != api.Last {
			return nil, false
		}
	}
	for node, list := range in {
		if list == api.Last && c.Next[node] != api.Out {
			return nil, false
		}
	}
	return in, true
}

// before is the node ahead of one of a list (Last: it is the first one).
func before(c api.Chains, list, node int) int {
	ahead := api.Last
	for x := range nodes(c, list) {
		if x == node {
			break
		}
		ahead = x
	}
	return ahead
}
