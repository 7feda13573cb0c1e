package list

import (
	"surcingle/api"
	"surcingle/ids"
	"surcingle/tree"
)

// node is an item where it hangs; nil is the root. It is never changed, as what an item hangs on never is another one.
type node struct {
	item  api.Item
	on    *node // what it hangs on
	right bool
	depth int // how many it is below, the root among them
	// far is on, or one that on is below: a way up one by one may be long.
	far *node
}

// newNode hangs an item, whose Left and Right, if these aren't nothing's, are among others.
func newNode(i api.Item, others *held) *node {
	h := tree.Place(neighbours(i, others), i)
	on := others.find(h.On)
	return &node{item: i, on: on, right: h.Right, depth: on.deep() + 1, far: farFrom(on)}
}

// neighbours tells items by which layer 8 tells the same place as by all others: of these it asks only whether Right is below Left, and to ask it of all, each time, would take long.
func neighbours(i api.Item, others *held) []api.Item {
	var l []api.Item
	if !ids.None(i.Left) {
		l = append(l, api.Item{Id: i.Left})
	}
	if ids.None(i.Right) || i.Right == i.Left {
		return l
	}
	right := api.Item{Id: i.Right}
	if others.find(i.Right).hungOn(others.find(i.Left)) != nil {
		right.Left = i.Left
	}
	return append(l, right)
}

// farFrom tells the far of what hangs on a node: two leaps of one length become one leap, so that no way up has many.
func farFrom(on *node) *node {
	if on == nil || on.far == nil {
		return on
	}
	if on.depth-on.far.depth == on.far.depth-on.far.far.deep() {
		return on.far.far
	}
	return on
}

// deep tells a node's depth.
func (n *node) deep() int {
	if n == nil {
		return 0
	}
	return n.depth
}

// hungOn tells which of the items that hang on a node n is, or is below; nil, if it is below none of them.
func (n *node) hungOn(on *node) *node {
	depth := on.deep() + 1
	if n.depth < depth {
		return nil
	}
	n = n.upTo(depth)
	if n.on != on {
		return nil
	}
	return n
}

// upTo tells what stands at a depth, from 1 on, on the way from an item up to the root; the item's depth is that, or a greater one.
func (n *node) upTo(depth int) *node {
	for n.depth > depth {
		if n.far.deep() >= depth {
			n = n.far
		} else {
			n = n.on
		}
	}
	return n
}
