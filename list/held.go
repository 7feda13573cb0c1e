package list

import (
	"surcingle/api"
	"surcingle/ids"
)

// held is items by their Ids: one, those of lesser Ids and those of greater ones, whose heights differ by one at most, so that the way to each one is short.
// It is never changed, so that many lists may have it. The nil one has no items.
type held struct {
	node       *node
	less, more *held
	height     int
}

// find tells the item of an Id; nil, if there is none.
func (h *held) find(a api.Id) *node {
	for h != nil {
		switch c := ids.Cmp(a, h.node.item.Id); {
		case c < 0:
			h = h.less
		case c > 0:
			h = h.more
		default:
			return h.node
		}
	}
	return nil
}

// with tells these items and one more, of whose Id there is none.
func (h *held) with(n *node) *held {
	if h == nil {
		return join(nil, n, nil)
	}
	if ids.Cmp(n.item.Id, h.node.item.Id) < 0 {
		return balance(h.less.with(n), h.node, h.more)
	}
	return balance(h.less, h.node, h.more.with(n))
}

// high tells the height; 0 of no items.
func (h *held) high() int {
	if h == nil {
		return 0
	}
	return h.height
}

// join makes an item, and those on its two sides, whose heights differ by one at most, one.
func join(less *held, n *node, more *held) *held {
	return &held{n, less, more, max(less.high(), more.high()) + 1}
}

// balance is join, but that one side may be higher by two, as it got an item more.
func balance(less *held, n *node, more *held) *held {
	if less.high() > more.high()+1 {
		return leanMore(less, n, more)
	}
	if more.high() > less.high()+1 {
		return leanLess(less, n, more)
	}
	return join(less, n, more)
}

// leanMore is join, but that less is higher by two.
func leanMore(less *held, n *node, more *held) *held {
	if less.less.high() >= less.more.high() {
		return join(less.less, less.node, join(less.more, n, more))
	}
	top := less.more
	return join(join(less.less, less.node, top.less), top.node, join(top.more, n, more))
}

// leanLess is join, but that more is higher by two.
func leanLess(less *held, n *node, more *held) *held {
	if more.more.high() >= more.less.high() {
		return join(join(less, n, more.less), more.node, more.more)
	}
	top := more.less
	return join(join(less, n, top.less), top.node, join(top.more, more.node, more.more))
}
