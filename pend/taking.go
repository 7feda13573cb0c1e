package pend

import (
	"container/heap"
	"slices"

	"surcingle/api"
	"surcingle/ids"
)

// taking is a Take on its way. Items have numbers, from 0 on, by rising Ids.
type taking struct {
	known known
	items []api.Item
	came  []bool
	come  []api.Item
	ready numbers
	// waiting has the items that await an Id. Each awaits one at a time, and is asked again only when that comes: to ask all of them for each one that comes would take long.
	waiting map[api.Id][]int
}

// newTaking asks each item a first time.
func newTaking(v []api.Clock, l []api.Item) *taking {
	t := &taking{
		known:   known{first: v, since: map[uint32]uint32{}},
		items:   slices.Clone(l),
		came:    make([]bool, len(l)),
		waiting: map[api.Id][]int{},
	}
	slices.SortFunc(t.items, func(x, y api.Item) int { return ids.Cmp(x.Id, y.Id) })
	for n := range t.items {
		t.ask(n)
	}
	return t
}

// takeAll lets items come until none is ready.
func (t *taking) takeAll() {
	for len(t.ready) > 0 {
		n, _ := heap.Pop(&t.ready).(int)
		t.take(n)
	}
}

// take lets an item come that is ready.
func (t *taking) take(n int) {
	a := t.items[n].Id
	t.came[n] = true
	t.come = append(t.come, t.items[n])
	t.known.goOn(a)
	waited := t.waiting[a]
	delete(t.waiting, a)
	for _, m := range waited {
		t.ask(m)
	}
}

// ask puts an item with those that are ready, or with those that wait.
func (t *taking) ask(n int) {
	a, awaits := t.known.awaited(t.items[n])
	if awaits {
		t.waiting[a] = append(t.waiting[a], n)
		return
	}
	heap.Push(&t.ready, n)
}

// others tells the items that haven't come.
func (t *taking) others() []api.Item {
	var told []api.Item
	for n, x := range t.items {
		if !t.came[n] {
			told = append(told, x)
		}
	}
	return told
}
