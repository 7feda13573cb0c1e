package doc

import (
	"errors"
	"slices"
	"unicode/utf8"

	"surcingle/api"
	"surcingle/batch"
	"surcingle/ids"
	"surcingle/list"
	"surcingle/pend"
	"surcingle/ranges"
	"surcingle/runs"
	"surcingle/vector"
)

// insert is Insert, with errors that have no call's name.
func (d *Doc) insert(at int, text string) error {
	if d.closed {
		return api.ErrClosed
	}
	if !utf8.ValidString(text) {
		return api.ErrArg
	}
	left, right, err := d.list.Between(at)
	if err != nil {
		return err
	}
	first := api.Id{Client: d.client, Clock: vector.Next(d.vector, d.client)}
	// The Clock behind the text's last one is how many items of its own would be known.
	behind, err := ids.After(first, utf8.RuneCountInString(text), d.limit+1)
	if err != nil {
		return err
	}
	if text == "" {
		return nil
	}
	come := runs.Items([]api.Run{{Id: first, Left: left, Right: right, Text: text}})
	next, err := added(d.list, come, d.deleted)
	if err != nil {
		return err
	}
	d.list = next
	d.vector = vector.Set(d.vector, d.client, behind.Clock)
	d.version++
	return nil
}

// delete is Delete, with errors that have no call's name.
func (d *Doc) delete(at, n int) error {
	if d.closed {
		return api.ErrClosed
	}
	l, err := d.list.Shown(at, n)
	if err != nil {
		return err
	}
	if n == 0 {
		return nil
	}
	deletes := setOf(l)
	next, err := hidden(d.list, deletes)
	if err != nil {
		return err
	}
	d.list = next
	d.deleted = ranges.Join(d.deleted, deletes)
	d.version++
	return nil
}

// apply is Apply, with errors that have no call's name.
func (d *Doc) apply(b []byte) error {
	if d.closed {
		return api.ErrClosed
	}
	x, err := batch.Get(b)
	if err != nil {
		return err
	}
	fresh, err := d.freshOf(runs.Items(x.Runs))
	if err != nil {
		return err
	}
	come, waiting, known := pend.Take(d.vector, slices.Concat(d.waiting, fresh))
	if len(waiting) > api.MaxPending {
		return api.ErrFull
	}
	deletes := without(x.Deletes, d.deleted)
	deleted := ranges.Join(d.deleted, deletes)
	next, err := hidden(d.list, deletes)
	if err != nil {
		return err
	}
	next, err = added(next, come, deleted)
	if err != nil {
		return err
	}
	d.list, d.vector, d.waiting, d.deleted = next, known, waiting, deleted
	if len(fresh)+len(come)+len(deletes) > 0 {
		d.version++
	}
	return nil
}

// freshOf tells which of a batch's items are new; ErrMalformed, if one of them goes against what is known.
func (d *Doc) freshOf(l []api.Item) ([]api.Item, error) {
	var told []api.Item
	for _, x := range l {
		known, has := d.item(x.Id)
		// Nobody else puts items of the document's own client.
		if has && known != x || !has && x.Id.Client == d.client {
			return nil, api.ErrMalformed
		}
		if !has {
			told = append(told, x)
		}
	}
	return told, nil
}

// item tells the item of an Id that the list has, or that waits.
func (d *Doc) item(a api.Id) (api.Item, bool) {
	if x, has := d.list.Item(a); has {
		return x, true
	}
	at, waits := slices.BinarySearchFunc(d.waiting, a, func(x api.Item, a api.Id) int { return ids.Cmp(x.Id, a) })
	if !waits {
		return api.Item{}, false
	}
	return d.waiting[at], true
}

// added tells a list with items more, each behind those that it needs, deleted if their Ids are.
func added(x list.List, come []api.Item, deleted []api.Span) (list.List, error) {
	for _, i := range come {
		next, err := x.Add(i, ranges.Has(deleted, i.Id))
		if err != nil {
			return list.List{}, err
		}
		x = next
	}
	return x, nil
}

// hidden tells a list in which what it has of a set is deleted.
func hidden(x list.List, set []api.Span) (list.List, error) {
	for _, s := range set {
		for clock := s.From; clock < s.To; clock++ {
			next, err := x.Delete(api.Id{Client: s.Client, Clock: clock})
			if errors.Is(err, api.ErrArg) {
				// It has none of the client's behind this one, either, and a span may go on for long.
				break
			}
			if err != nil {
				return list.List{}, err
			}
			x = next
		}
	}
	return x, nil
}
