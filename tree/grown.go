package tree

import (
	"slices"

	"surcingle/api"
	"surcingle/ids"
)

// grown is items where they hang. Each has a number, from 1 on; the root's is 0.
type grown struct {
	nodes   []node
	numbers map[api.Id]int
}

// node is an item in its place, or the root.
type node struct {
	id    api.Id
	on    int // what it hangs on
	right bool
	depth int // how many it is below
	// far is on, or one that on is below: a way up one by one may be long, and Order would go many of them.
	far int
}

// grow puts known items where they hang.
func grow(l []api.Item) *grown {
	g := &grown{
		nodes:   make([]node, 1, len(l)+1),
		numbers: make(map[api.Id]int, len(l)),
	}
	for _, x := range l {
		g.add(x.Id, hang(x, g.below))
	}
	return g
}

// add puts an item where it hangs.
func (g *grown) add(a api.Id, h Hang) {
	on := g.numbers[h.On]
	// Nothing's Ids stay without a number: what hangs on the root would find them instead.
	if !ids.None(a) {
		g.numbers[a] = len(g.nodes)
	}
	g.nodes = append(g.nodes, node{id: a, on: on, right: h.Right, depth: g.nodes[on].depth + 1, far: g.farFrom(on)})
}

// farFrom tells the far of what hangs on a node: two leaps of one length become one leap, so that no way up has many.
func (g *grown) farFrom(on int) int {
	far := g.nodes[on].far
	farther := g.nodes[far].far
	if g.nodes[on].depth-g.nodes[far].depth == g.nodes[far].depth-g.nodes[farther].depth {
		return farther
	}
	return on
}

// below tells whether an item is below another one.
func (g *grown) below(a, b api.Id) bool {
	n, top := g.numbers[a], g.numbers[b]
	if g.nodes[n].depth <= g.nodes[top].depth {
		return false
	}
	return g.upTo(n, g.nodes[top].depth) == top
}

// upTo tells what stands at a depth, on the way from an item up to the root; the item's depth is that, or a greater one.
func (g *grown) upTo(n, depth int) int {
	for g.nodes[n].depth > depth {
		if far := g.nodes[n].far; g.nodes[far].depth >= depth {
			n = far
		} else {
			n = g.nodes[n].on
		}
	}
	return n
}

// order tells all Ids, in order. What is still to do is kept in a list, not in calls inside calls: these may have no room for long chains.
func (g *grown) order() []api.Id {
	left, right := g.sides()
	told := make([]api.Id, 0, len(g.nodes)-1)
	// The last one comes first: n is an item with all below it, -n the item alone.
	todo := slices.Clone(right[0])
	for len(todo) > 0 {
		n := todo[len(todo)-1]
		todo = todo[:len(todo)-1]
		if n < 0 {
			told = append(told, g.nodes[-n].id)
			continue
		}
		todo = append(todo, right[n]...)
		todo = append(todo, -n)
		todo = append(todo, left[n]...)
	}
	return told
}

// sides tells of each node what hangs on it to the left, and to the right, by falling Ids.
func (g *grown) sides() (left, right [][]int) {
	left, right = make([][]int, len(g.nodes)), make([][]int, len(g.nodes))
	for _, n := range g.falling() {
		if x := g.nodes[n]; x.right {
			right[x.on] = append(right[x.on], n)
		} else {
			left[x.on] = append(left[x.on], n)
		}
	}
	return left, right
}

// falling tells all items by falling Ids.
func (g *grown) falling() []int {
	l := make([]int, 0, len(g.nodes)-1)
	for n := 1; n < len(g.nodes); n++ {
		l = append(l, n)
	}
	slices.SortFunc(l, func(n, m int) int { return ids.Cmp(g.nodes[m].id, g.nodes[n].id) })
	return l
}
