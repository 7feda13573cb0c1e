package pend

import (
	"maps"
	"math"
	"slices"

	"surcingle/api"
	"surcingle/ids"
	"surcingle/vector"
)

// known is a vector that goes on: the one at first, and each Next that is another one since. To make a vector for each item that comes would take long where there are many clients.
type known struct {
	first []api.Clock
	since map[uint32]uint32
}

// awaited tells an Id that must come ahead of x; false, if x is ready.
func (k known) awaited(x api.Item) (api.Id, bool) {
	if x.Id.Clock != k.next(x.Id.Client) {
		// It comes behind all of its client's that are ahead of it, so that the nearest one is enough. One that is known already awaits what can't come.
		return api.Id{Client: x.Id.Client, Clock: x.Id.Clock - 1}, true
	}
	if !k.noneOrHas(x.Left) {
		return x.Left, true
	}
	if !k.noneOrHas(x.Right) {
		return x.Right, true
	}
	return api.Id{}, false
}

// noneOrHas tells whether an Id is nothing's, or is known.
func (k known) noneOrHas(a api.Id) bool { return ids.None(a) || a.Clock < k.next(a.Client) }

// next tells a client's Next.
func (k known) next(client uint32) uint32 {
	if next, ok := k.since[client]; ok {
		return next
	}
	return vector.Next(k.first, client)
}

// goOn lets the vector go on by an item.
func (k known) goOn(a api.Id) {
	// No vector can tell a Next behind the last Clock: it stays there, as one that wrapped round would forget the client.
	if next, err := ids.After(a, 1, math.MaxUint32); err == nil {
		k.since[a.Client] = next.Clock
	}
}

// vector tells the vector.
func (k known) vector() []api.Clock {
	var since []api.Clock
	for _, client := range slices.Sorted(maps.Keys(k.since)) {
		since = append(since, api.Clock{Client: client, Next: k.since[client]})
	}
	return vector.Merge(k.first, since)
}
