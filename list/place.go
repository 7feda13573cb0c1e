package list

import (
	"sort"

	"surcingle/ids"
)

// placeOf tells the place in the index of an item that isn't there yet. All that is below another item stands side by side with it, so that a search by halves finds the place; layer 8's Order would go through all items for each one.
func (x List) placeOf(n *node) int {
	if n.right {
		return x.rightPlaceOf(n)
	}
	return x.leftPlaceOf(n)
}

// rightPlaceOf tells the place of what hangs to the right: behind what it hangs on, and all that hangs there with a lesser Id.
func (x List) rightPlaceOf(n *node) int {
	from := 0
	if n.on != nil {
		at, _ := x.order.Find(n.on.item.Id)
		from = at + 1
	}
	return from + sort.Search(x.order.Len()-from, func(k int) bool {
		other := x.nodeAt(from + k).hungOn(n.on)
		return other == nil || ids.Cmp(other.item.Id, n.item.Id) > 0
	})
}

// leftPlaceOf tells the place of what hangs to the left: ahead of what it hangs on, and of all that hangs there with a greater Id.
func (x List) leftPlaceOf(n *node) int {
	to, _ := x.order.Find(n.on.item.Id)
	return sort.Search(to, func(at int) bool {
		other := x.nodeAt(at).hungOn(n.on)
		return other != nil && ids.Cmp(other.item.Id, n.item.Id) > 0
	})
}

// nodeAt tells the item at a place of the index; there is one.
func (x List) nodeAt(at int) *node { return x.items.find(x.idAt(at)) }
