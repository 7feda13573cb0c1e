package doc

import (
	"math"
	"slices"
	"testing"

	"surcingle/api"
	"surcingle/ranges"
	"surcingle/runs"
	"surcingle/tree"
)

// world is items that are known in the order in which it has them, and Ids that are deleted.
type world struct {
	items   []api.Item
	deletes []api.Id
}

// inventWorld has items of some clients, each put between two that stand side by side, or any two, ahead of it.
func inventWorld(m *mixer, clients []uint32, n int) world {
	var w world
	next := map[uint32]uint32{}
	for range n {
		client := clients[m.below(len(clients))]
		i := api.Item{Id: id(client, next[client]), Ch: []rune{'a', 'b', 'é', '世', 0x1f642}[m.below(5)]}
		next[client]++
		if order := tree.Order(w.items); m.below(3) > 0 {
			if at := m.below(len(order) + 1); at > 0 {
				i.Left = order[at-1]
			}
			if at := slices.Index(order, i.Left) + 1; at < len(order) {
				i.Right = order[at]
			}
		} else if len(order) > 0 {
			some := append(slices.Clone(order), api.Id{}, id(0, 3))
			i.Left, i.Right = some[m.below(len(some))], some[m.below(len(some))]
		}
		w.items = append(w.items, i)
		if m.below(4) == 0 {
			w.deletes = append(w.deletes, id(clients[m.below(len(clients))], uint32(m.below(n))))
		}
	}
	return w
}

// batchOf has the bytes of items and of Ids that are deleted.
func batchOf(t testing.TB, l []api.Item, deletes []api.Id) []byte {
	t.Helper()
	l = slices.Clone(l)
	slices.SortFunc(l, itemsRise)
	var s []api.Span
	for _, a := range deletes {
		s = append(s, api.Span{Client: a.Client, From: a.Clock, To: a.Clock + 1})
	}
	return put(t, api.Batch{Runs: runs.Of(l), Deletes: ranges.Of(s)})
}

// batches deals items and Ids out, at most so many a batch; some are told twice.
func (w world) batches(t testing.TB, m *mixer, n int) [][]byte {
	t.Helper()
	items, deletes := make([][]api.Item, n), make([][]api.Id, n)
	for _, i := range w.items {
		at := m.below(n)
		items[at] = append(items[at], i)
		if other := m.below(3 * n); other < n && other != at {
			items[other] = append(items[other], i)
		}
	}
	for _, a := range w.deletes {
		at := m.below(n)
		deletes[at] = append(deletes[at], a)
	}
	var l [][]byte
	for at := range n {
		l = append(l, batchOf(t, items[at], deletes[at]))
	}
	return l
}

// words are what a document is that was told all of a world.
func (w world) words() *words {
	told := &words{items: w.items, deleted: map[api.Id]bool{}}
	for _, a := range w.deletes {
		told.deleted[a] = true
	}
	return told
}

// checkWorld asks that a document has the text, the vector and the deleted Ids of all that it was told.
func checkWorld(t *testing.T, d *Doc, w *words) {
	t.Helper()
	if d.Text() != w.text() || !slices.Equal(d.Vector(), w.vector()) || !sameBatch(d.Since(nil), w.since(nil)) || d.Waiting() != 0 {
		t.Fatalf("%q, %v, %v, %d wait, want %q, %v, %v", d.Text(), d.Vector(), d.Since(nil), d.Waiting(), w.text(), w.vector(), w.since(nil))
	}
}

// P11.5: the same batches in all orders.
func TestAllOrders(t *testing.T) {
	m := mixer(3)
	for range 40 {
		w := inventWorld(&m, []uint32{1, 2, 7, last}, 12)
		want := w.words()
		for n := 1; n <= 4; n++ {
			eachOrder(w.batches(t, &m, n), func(l [][]byte) {
				x := open(t, 9, 100)
				for _, b := range l {
					x.apply(b)
				}
				checkWorld(t, x.d, want)
			})
		}
	}
}

// P11.5: the same items and Ids, each in a batch of its own, or few together, in mixed orders, some of them again.
func TestMixedOrders(t *testing.T) {
	m := mixer(4)
	for range 12 {
		w := inventWorld(&m, []uint32{1, 3, 4, math.MaxInt32 + 1, last}, 60)
		want := w.words()
		for _, n := range []int{2, 7, 60} {
			for range 4 {
				d := open(t, 9, 100).d
				l := w.batches(t, &m, n)
				for _, b := range append(mix(&m, append(l, l...)), l...) {
					if _, err := d.Apply(b); err != nil {
						t.Fatal(err)
					}
				}
				checkWorld(t, d, want)
			}
		}
	}
}

// P11.5: one document wrote itself what others were told.
func TestOneThatWrote(t *testing.T) {
	m := mixer(5)
	for range 30 {
		w := open(t, 1, 100)
		var l [][]byte
		other := inventWorld(&m, []uint32{2, 3}, 10)
		for range 12 {
			v := w.d.Vector()
			n := len(w.w.places())
			switch m.below(3) {
			case 0:
				w.insert(m.below(n+1), []string{"a", "bc", "déf"}[m.below(3)])
			case 1:
				at := m.below(n + 1)
				w.delete(at, m.below(n-at+1))
			default:
				w.apply(batchOf(t, other.items[:m.below(len(other.items)+1)], other.deletes))
			}
			l = append(l, put(t, w.d.Since(v)))
		}
		l = append(l, put(t, w.d.Since(nil)))
		for range 4 {
			x := open(t, 9, 100)
			for _, b := range mix(&m, l) {
				x.apply(b)
			}
			checkWorld(t, x.d, w.w)
		}
	}
}

// P11.5: all pairs of items of a small world, and deletes, in one order and in the other one.
func TestAllPairs(t *testing.T) {
	places := []api.Id{{}, id(1, 0), id(2, 0)}
	for _, left := range places {
		for _, right := range places {
			for _, deletes := range [][]api.Id{nil, {id(1, 0)}, {id(2, 0)}, {id(1, 0), id(2, 0)}} {
				one := batchOf(t, []api.Item{{Id: id(1, 0), Ch: 'a'}}, nil)
				two := batchOf(t, []api.Item{{Id: id(2, 0), Left: left, Right: right, Ch: 'b'}}, nil)
				three := batchOf(t, nil, deletes)
				var texts []string
				eachOrder([][]byte{one, two, three}, func(l [][]byte) {
					x := open(t, 9, 100)
					for _, b := range l {
						x.apply(b)
					}
					texts = append(texts, x.d.Text())
				})
				if len(slices.Compact(texts)) != 1 {
					t.Fatalf("b between %v and %v: %q", left, right, texts)
				}
			}
		}
	}
}

// replicas are documents that write, tell each other what they have, and are told what nobody has.
type replicas struct {
	t    testing.TB
	m    mixer
	l    []*both
	rest world
	// lies: they tell spoilt bytes and other items of the same Ids, too. A replica that takes these has another text from then on.
	lies bool
}

func (r *replicas) write(x *both) {
	n := len(x.w.places())
	switch r.m.below(10) {
	case 0:
		x.insert(r.m.below(n+3)-1, []string{"a", "", "b\xff", "cde"}[r.m.below(4)])
	case 1:
		x.delete(r.m.below(n+3)-1, r.m.below(n+3)-1)
	case 2, 3, 4:
		at := r.m.below(n + 1)
		x.delete(at, r.m.below(min(4, n-at+1)))
	default:
		x.insert(r.m.below(n+1), []string{"f", "gh", "é", "世🙂j", "klmno"}[r.m.below(5)])
	}
}

// hear tells x what another one has, whole or since its vector, or spoilt.
func (r *replicas) hear(x *both) {
	v := x.d.Vector()
	if r.m.below(3) == 0 {
		v = nil
	}
	b := put(r.t, r.l[r.m.below(len(r.l))].d.Since(v))
	if r.lies && r.m.below(4) == 0 {
		b[r.m.below(len(b))] += byte(1 + r.m.below(3))
	}
	x.apply(b)
}

// invent tells x some of the rest, whatever it has; now and then one that is another one, or that is x's own.
func (r *replicas) invent(x *both) {
	var l []api.Item
	var deletes []api.Id
	for _, i := range r.rest.items {
		if r.m.below(len(r.rest.items)) < 3 {
			l = append(l, i)
		}
	}
	for _, a := range r.rest.deletes {
		if r.m.below(len(r.rest.deletes)) < 1 {
			deletes = append(deletes, a)
		}
	}
	if r.lies && len(l) > 0 && r.m.below(8) == 0 {
		i := &l[r.m.below(len(l))]
		*i = []api.Item{{Id: i.Id, Left: i.Left, Right: i.Right, Ch: 'Z'}, {Id: i.Id, Left: i.Right, Right: i.Left, Ch: i.Ch}, {Id: id(x.w.client, uint32(r.m.below(9))), Ch: 'Y'}}[r.m.below(3)]
	}
	if r.m.below(3) == 0 {
		// An Id that a replica has, or will have.
		deletes = append(deletes, id(uint32(1+r.m.below(len(r.l))), uint32(r.m.below(40))))
	}
	x.apply(batchOf(r.t, l, deletes))
}

// P11.1 to P11.5: mixed calls, each held against the chapter's words; in the end all have told each other all that they have, and have the same, if there were no lies.
func TestReplicas(t *testing.T) {
	refused, waited := 0, 0
	for seed := range mixer(40) {
		r := &replicas{t: t, m: seed, lies: seed%2 == 1}
		for client := range uint32(3) {
			r.l = append(r.l, open(t, client+1, []uint32{60, 12, last - 1}[client]))
		}
		r.rest = inventWorld(&r.m, []uint32{4, 5, last}, 12)
		// Some hang on what the replicas write.
		for k := range r.rest.items {
			if i := &r.rest.items[k]; r.m.below(4) == 0 {
				i.Left = id(uint32(1+r.m.below(3)), uint32(r.m.below(15)))
			}
		}
		for range 60 {
			x := r.l[r.m.below(len(r.l))]
			before := x.d.Version()
			switch r.m.below(5) {
			case 0, 1:
				r.write(x)
			case 2, 3:
				r.hear(x)
			default:
				r.invent(x)
			}
			waited += x.d.Waiting()
			if x.d.Version() == before {
				refused++
			}
		}
		for range 2 {
			for _, x := range r.l {
				x.apply(batchOf(t, r.rest.items, r.rest.deletes))
				for _, y := range r.l {
					x.apply(put(t, y.d.Since(x.d.Vector())))
				}
			}
		}
		if !r.lies {
			checkAlike(t, r.l)
		}
		for _, x := range r.l {
			x.close()
			r.write(x)
			r.hear(x)
			r.invent(x)
		}
	}
	if refused < 100 || waited < 100 {
		t.Fatalf("%d calls changed nothing, %d waited: these calls tell little", refused, waited)
	}
}

// checkAlike asks that documents that told each other all have the same text, vector and deleted Ids.
func checkAlike(t *testing.T, l []*both) {
	t.Helper()
	for _, x := range l[1:] {
		if x.d.Text() != l[0].d.Text() || !slices.Equal(x.d.Vector(), l[0].d.Vector()) || !sameBatch(x.d.Since(nil), l[0].d.Since(nil)) {
			t.Fatalf("%q, %v and %q, %v", x.d.Text(), x.d.Vector(), l[0].d.Text(), l[0].d.Vector())
		}
	}
}
