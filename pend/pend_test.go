package pend

import (
	"cmp"
	"math"
	"slices"
	"testing"

	"surcingle/api"
)

const last = math.MaxUint32

func id(client, clock uint32) api.Id { return api.Id{Client: client, Clock: clock} }

func item(a, left, right api.Id) api.Item {
	return api.Item{Id: a, Left: left, Right: right, Ch: 'x'}
}

// alone is an item between nothing and nothing.
func alone(client, clock uint32) api.Item { return item(id(client, clock), api.Id{}, api.Id{}) }

// behind is an item that has a Left alone.
func behind(a, left api.Id) api.Item { return item(a, left, api.Id{}) }

// clocks takes Client, Next, Client, Next and so on.
func clocks(numbers ...uint32) []api.Clock {
	var v []api.Clock
	for i := 0; i < len(numbers); i += 2 {
		v = append(v, api.Clock{Client: numbers[i], Next: numbers[i+1]})
	}
	return v
}

// risesByWords compares Ids: by Client, then by Clock.
func risesByWords(a, b api.Id) int {
	return cmp.Or(cmp.Compare(a.Client, b.Client), cmp.Compare(a.Clock, b.Clock))
}

func itemsRise(x, y api.Item) int { return risesByWords(x.Id, y.Id) }

// nextByWords goes through all of v.
func nextByWords(v []api.Clock, client uint32) uint32 {
	for _, c := range v {
		if c.Client == client {
			return c.Next
		}
	}
	return 0
}

// goOnByWords tells the vector behind an item, with each Next from 1 on.
func goOnByWords(v []api.Clock, a api.Id) []api.Clock {
	told := slices.DeleteFunc(slices.Clone(v), func(c api.Clock) bool { return c.Client == a.Client })
	told = append(told, api.Clock{Client: a.Client, Next: a.Clock + 1})
	slices.SortFunc(told, func(a, b api.Clock) int { return cmp.Compare(a.Client, b.Client) })
	return told
}

func readyByWords(v []api.Clock, x api.Item) bool {
	fine := func(a api.Id) bool { return a.Client == 0 || a.Clock < nextByWords(v, a.Client) }
	return x.Id.Clock == nextByWords(v, x.Id.Client) && fine(x.Left) && fine(x.Right)
}

// took is what Take tells.
type took struct {
	come, others []api.Item
	v            []api.Clock
}

func take(v []api.Clock, l []api.Item) took {
	come, others, then := Take(v, l)
	return took{come, others, then}
}

func (a took) same(b took) bool {
	return slices.Equal(a.come, b.come) && slices.Equal(a.others, b.others) && slices.Equal(a.v, b.v)
}

// takeByWords asks all that wait, by rising Ids, again and again from the first one on.
func takeByWords(v []api.Clock, l []api.Item) took {
	told := took{others: slices.Clone(l), v: slices.Clone(v)}
	slices.SortFunc(told.others, itemsRise)
	for {
		n := slices.IndexFunc(told.others, func(x api.Item) bool { return readyByWords(told.v, x) })
		if n < 0 {
			return told
		}
		x := told.others[n]
		told.come = append(told.come, x)
		told.others = slices.Delete(told.others, n, n+1)
		told.v = goOnByWords(told.v, x.Id)
	}
}

// mixer tells numbers that look mixed, the same ones each time.
type mixer uint32

func (m *mixer) below(n int) int {
	*m = *m*1664525 + 1013904223
	return int(*m>>8) % n
}

func mix(m *mixer, l []api.Item) []api.Item {
	told := slices.Clone(l)
	for i := range told {
		k := m.below(i + 1)
		told[i], told[k] = told[k], told[i]
	}
	return told
}

// eachOrder hands in a list in all its orders.
func eachOrder(l []api.Item, call func(l []api.Item)) {
	if len(l) < 2 {
		call(slices.Clone(l))
		return
	}
	for i, x := range l {
		eachOrder(slices.Delete(slices.Clone(l), i, i+1), func(others []api.Item) {
			call(append([]api.Item{x}, others...))
		})
	}
}

// mixedItems has items that nearly all come in the end, of some clients from their Nexts on, each put between two that may come ahead of it, or behind it; some are missing.
func mixedItems(m *mixer, v []api.Clock, n, loss int) []api.Item {
	clients := []uint32{1, 2, 3, 9, math.MaxInt32 + 1, last}
	var all []api.Id
	for range n {
		client := clients[m.below(len(clients))]
		clock := nextByWords(v, client)
		for _, a := range all {
			if a.Client == client {
				clock = a.Clock + 1
			}
		}
		all = append(all, id(client, clock))
	}
	var l []api.Item
	for i, a := range all {
		other := func() api.Id {
			switch m.below(8) {
			case 0, 1, 2:
				return id(0, uint32(m.below(3)))
			case 3:
				return id(1, nextByWords(v, 1)/2)
			case 4:
				return all[min(len(all)-1, i+m.below(4))]
			default:
				return all[m.below(i+1)]
			}
		}
		if m.below(100) >= loss {
			l = append(l, item(a, other(), other()))
		}
	}
	return mix(m, l)
}

// eachMixed hands in mixed items, and a vector that covers none of them.
func eachMixed(call func(m *mixer, v []api.Clock, l []api.Item)) {
	m := mixer(11)
	for _, v := range [][]api.Clock{nil, clocks(1, 5), clocks(2, 1, 9, 7, last, math.MaxInt32), clocks(1, 1, 3, last-90)} {
		for _, loss := range []int{0, 2, 10} {
			for range 60 {
				call(&m, v, mixedItems(&m, v, m.below(60), loss))
			}
		}
	}
}

// smallVectors are those of which eachSmall has items that aren't covered.
func smallVectors() [][]api.Clock {
	return [][]api.Clock{nil, clocks(1, 1), clocks(2, 1), clocks(1, 2), clocks(1, 1, 2, 1)}
}

// eachSmall hands in all lists of up to three items of few Ids, in rising order, between Ids of all kinds, and a vector that covers none of them.
func eachSmall(call func(v []api.Clock, l []api.Item)) {
	at := []api.Id{{}, id(1, 0), id(1, 1), id(2, 0)}
	var more func(v []api.Clock, l []api.Item, free []api.Id)
	more = func(v []api.Clock, l []api.Item, free []api.Id) {
		call(v, slices.Clone(l))
		if len(l) == 3 {
			return
		}
		for i, a := range free {
			for _, left := range at {
				for _, right := range at {
					more(v, append(slices.Clone(l), item(a, left, right)), free[i+1:])
				}
			}
		}
	}
	for _, v := range smallVectors() {
		more(v, nil, slices.DeleteFunc([]api.Id{id(1, 0), id(1, 1), id(1, 2), id(2, 0), id(2, 1)}, func(a api.Id) bool {
			return a.Clock < nextByWords(v, a.Client)
		}))
	}
}

// P10.1: its own Clock is its client's Next, one below it, one above it, far off; of clients that the vector has, and hasn't.
func TestReadyAsksTheItemsClock(t *testing.T) {
	v := clocks(2, 3, 5, 1, 7, math.MaxInt32+1, last, last)
	for _, c := range []struct {
		v    []api.Clock
		a    api.Id
		want bool
	}{
		{nil, id(1, 0), true},
		{nil, id(1, 1), false},
		{nil, id(last, 0), true},
		{nil, id(last, last), false},
		{clocks(), id(1, 0), true},
		{clocks(), id(1, 1), false},
		{v, id(2, 3), true},
		{v, id(2, 2), false},
		{v, id(2, 4), false},
		{v, id(2, 0), false},
		{v, id(2, last), false},
		{v, id(5, 1), true},
		{v, id(5, 0), false},
		{v, id(5, 2), false},
		{v, id(7, math.MaxInt32), false},
		{v, id(7, math.MaxInt32+1), true},
		{v, id(7, math.MaxInt32+2), false},
		{v, id(last, last-1), false},
		{v, id(last, last), true},
		{v, id(1, 0), true},
		{v, id(1, 1), false},
		{v, id(3, 0), true},
		{v, id(3, 3), false},
		{v, id(last-1, 0), true},
		{v, id(last-1, last), false},
	} {
		if got := Ready(c.v, item(c.a, api.Id{}, api.Id{})); got != c.want {
			t.Errorf("Ready(%v, an item of Id %v) = %v, want %v", c.v, c.a, got, c.want)
		}
	}
}

// P10.1: its Left, or its Right, or both, are nothing's, covered, the Clock at its client's Next, beyond it, or itself.
func TestReadyAsksLeftAndRight(t *testing.T) {
	v := clocks(2, 3, 5, 1, 7, math.MaxInt32+1, last, last)
	fine := []api.Id{{}, id(0, 9), id(0, last), id(2, 0), id(2, 1), id(2, 2), id(5, 0), id(7, 0), id(7, math.MaxInt32), id(last, 0), id(last, last-1)}
	not := []api.Id{id(2, 3), id(2, 4), id(2, last), id(5, 1), id(5, 2), id(7, math.MaxInt32+1), id(7, last), id(last, last), id(1, 0), id(1, 1), id(3, 0), id(last-1, 0)}
	ask := func(left, right api.Id, want bool) {
		t.Helper()
		for _, a := range []api.Id{id(2, 3), id(1, 0)} {
			if got := Ready(v, item(a, left, right)); got != want {
				t.Errorf("Ready(%v, item %v, Left %v, Right %v) = %v, want %v", v, a, left, right, got, want)
			}
		}
		for _, a := range []api.Id{id(2, 2), id(2, 4), id(1, 1)} {
			if Ready(v, item(a, left, right)) {
				t.Errorf("Ready(%v, item %v, Left %v, Right %v) = true", v, a, left, right)
			}
		}
	}
	for _, a := range fine {
		for _, b := range fine {
			ask(a, b, true)
		}
		for _, b := range not {
			ask(a, b, false)
			ask(b, a, false)
		}
	}
	for _, a := range not {
		ask(a, not[0], false)
		ask(not[0], a, false)
	}
}

// P10.1: the empty vector covers nothing but what is nothing's.
func TestReadyOfTheEmptyVector(t *testing.T) {
	for _, v := range [][]api.Clock{nil, clocks()} {
		for _, a := range []api.Id{id(1, 0), id(1, 1), id(2, 0), id(last, last)} {
			if Ready(v, item(id(1, 0), a, api.Id{})) || Ready(v, item(id(1, 0), api.Id{}, a)) {
				t.Errorf("an item beside %v is ready of no items", a)
			}
		}
		if !Ready(v, item(id(1, 0), id(0, 1), id(0, 7))) {
			t.Error("an item between nothing and nothing isn't ready")
		}
	}
}

// P10.1: all items of small worlds.
func TestReadyOfAllSmallItems(t *testing.T) {
	var some []api.Id
	for client := range uint32(4) {
		for clock := range uint32(4) {
			some = append(some, id(client, clock))
		}
	}
	for _, v := range append(smallVectors(), clocks(1, 3), clocks(1, 2, 3, 2), clocks(3, 1), clocks(1, 1, 2, 2, 3, 3)) {
		for _, a := range some {
			if a.Client == 0 {
				continue
			}
			for _, left := range some {
				for _, right := range some {
					x := item(a, left, right)
					if got, want := Ready(v, x), readyByWords(v, x); got != want {
						t.Fatalf("Ready(%v, %v) = %v, want %v", v, x, got, want)
					}
				}
			}
		}
	}
}

// edge is what Take is asked, what comes, and the Ids of the others.
type edge struct {
	name   string
	v      []api.Clock
	l      []api.Item
	come   []api.Id
	others []api.Id
	then   []api.Clock
}

// edges are ordinary inputs and the edges of P10.1.
func edges() []edge {
	return append(edgesOfOne(), edgesOfMany()...)
}

func edgesOfOne() []edge {
	a := id(2, 3)
	v := clocks(1, 2, 2, 3)
	comes := func(name string, x api.Item) edge {
		return edge{name, v, []api.Item{x}, []api.Id{x.Id}, nil, clocks(1, 2, 2, 4)}
	}
	waits := func(name string, x api.Item) edge {
		return edge{name, v, []api.Item{x}, nil, []api.Id{x.Id}, v}
	}
	return []edge{
		{"no items, an empty vector", nil, nil, nil, nil, nil},
		{"empty lists", clocks(), []api.Item{}, nil, nil, nil},
		{"no items", v, nil, nil, nil, v},
		{"one item, an empty vector", nil, []api.Item{alone(2, 0)}, []api.Id{id(2, 0)}, nil, clocks(2, 1)},
		{"one above, an empty vector", nil, []api.Item{alone(2, 1)}, nil, []api.Id{id(2, 1)}, nil},
		comes("Clock is Next", alone(2, 3)),
		waits("Clock is one above Next", alone(2, 4)),
		waits("Clock is far above Next", alone(2, last)),
		comes("Left is nothing's, of a Clock", behind(a, id(0, 9))),
		comes("Right is nothing's, of a Clock", item(a, api.Id{}, id(0, 9))),
		comes("Left and Right are covered", item(a, id(1, 1), id(2, 2))),
		waits("Left is at Next", behind(a, id(1, 2))),
		waits("Right is at Next", item(a, api.Id{}, id(1, 2))),
		waits("Left is at Next, Right covered", item(a, id(1, 2), id(1, 1))),
		waits("Right is at Next, Left covered", item(a, id(1, 1), id(1, 2))),
		waits("Left's client isn't known", behind(a, id(3, 0))),
		waits("Right's client isn't known", item(a, api.Id{}, id(3, 0))),
		waits("it waits for itself, by Left", behind(a, a)),
		waits("it waits for itself, by Right", item(a, api.Id{}, a)),
		waits("it waits for itself, by both", item(a, a, a)),
		waits("it waits for one of its client behind it", behind(a, id(2, 4))),
		{"a client ahead of all", clocks(5, 5), []api.Item{alone(1, 0)}, []api.Id{id(1, 0)}, nil, clocks(1, 1, 5, 5)},
		{"a client behind all", clocks(5, 5), []api.Item{alone(9, 0)}, []api.Id{id(9, 0)}, nil, clocks(5, 5, 9, 1)},
		{"a client between", clocks(5, 5, 9, 1), []api.Item{alone(7, 0)}, []api.Id{id(7, 0)}, nil, clocks(5, 5, 7, 1, 9, 1)},
		{"numbers beyond 31 bits", clocks(last, math.MaxInt32), []api.Item{alone(last, math.MaxInt32), alone(last, math.MaxInt32+1)}, []api.Id{id(last, math.MaxInt32), id(last, math.MaxInt32+1)}, nil, clocks(last, math.MaxInt32+2)},
		{"the greatest Next", clocks(3, last-1), []api.Item{alone(3, last-1)}, []api.Id{id(3, last-1)}, nil, clocks(3, last)},
	}
}

func edgesOfMany() []edge {
	a, b, c, d, e := id(1, 0), id(1, 1), id(1, 2), id(2, 0), id(3, 0)
	v := clocks(1, 2)
	return []edge{
		{"one behind the other", nil, []api.Item{alone(1, 0), behind(b, a), behind(c, b)}, []api.Id{a, b, c}, nil, clocks(1, 3)},
		{"Left and Right come by the same Take", nil, []api.Item{item(e, b, d), alone(1, 0), alone(1, 1), alone(2, 0)}, []api.Id{a, b, d, e}, nil, clocks(1, 2, 2, 1, 3, 1)},
		{"Left comes, Right doesn't", nil, []api.Item{item(e, a, b), alone(1, 0)}, []api.Id{a}, []api.Id{e}, clocks(1, 1)},
		{"Right comes, Left doesn't", nil, []api.Item{item(e, b, a), alone(1, 0)}, []api.Id{a}, []api.Id{e}, clocks(1, 1)},
		{"Left is Right", nil, []api.Item{item(a, d, d), alone(2, 0)}, []api.Id{d, a}, nil, clocks(1, 1, 2, 1)},
		{"two wait for each other", nil, []api.Item{behind(a, d), item(d, api.Id{}, a)}, nil, []api.Id{a, d}, nil},
		{"three wait round about, one comes", nil, []api.Item{behind(a, d), behind(d, e), behind(e, a), alone(4, 0)}, []api.Id{id(4, 0)}, []api.Id{a, d, e}, clocks(4, 1)},
		{"two wait for each other, and one for them", nil, []api.Item{behind(a, d), behind(d, a), behind(e, d)}, nil, []api.Id{a, d, e}, nil},
		{"it waits for the one of its client behind it, that for it", nil, []api.Item{behind(a, b), alone(1, 1)}, nil, []api.Id{a, b}, nil},
		{"a gap ahead of all", nil, []api.Item{alone(1, 1), behind(c, b), behind(d, c), behind(e, d)}, nil, []api.Id{b, c, d, e}, nil},
		{"a gap ahead of all, known clients", v, []api.Item{alone(1, 3), alone(1, 4), alone(2, 1)}, nil, []api.Id{id(1, 3), id(1, 4), id(2, 1)}, v},
		{"the last one fills the gap", nil, []api.Item{alone(1, 1), behind(c, b), behind(d, c), behind(e, d), alone(1, 0)}, []api.Id{a, b, c, d, e}, nil, clocks(1, 3, 2, 1, 3, 1)},
		{"the last one fills the gap, all by greater Ids", nil, []api.Item{behind(a, d), behind(d, e), behind(e, id(4, 0)), alone(4, 0)}, []api.Id{id(4, 0), e, d, a}, nil, clocks(1, 1, 2, 1, 3, 1, 4, 1)},
		{"a gap behind the first ones", nil, []api.Item{alone(1, 0), alone(1, 2), alone(1, 3)}, []api.Id{a}, []api.Id{c, id(1, 3)}, clocks(1, 1)},
		{"of several that are ready the least first", nil, []api.Item{alone(3, 0), alone(1, 0), alone(2, 0)}, []api.Id{a, d, e}, nil, clocks(1, 1, 2, 1, 3, 1)},
		{"one makes a lesser one ready, ahead of a greater one", nil, []api.Item{behind(a, d), alone(2, 0), alone(3, 0)}, []api.Id{d, a, e}, nil, clocks(1, 1, 2, 1, 3, 1)},
		{"one makes lesser ones ready, the least of them first", nil, []api.Item{behind(d, e), behind(a, e), alone(3, 0), alone(4, 0)}, []api.Id{e, a, d, id(4, 0)}, nil, clocks(1, 1, 2, 1, 3, 1, 4, 1)},
		{"one makes a greater one ready, behind one between", nil, []api.Item{alone(1, 0), behind(e, a), alone(2, 0)}, []api.Id{a, d, e}, nil, clocks(1, 1, 2, 1, 3, 1)},
		{"a client's next one ahead of other clients", nil, []api.Item{alone(2, 0), alone(1, 1), alone(1, 0)}, []api.Id{a, b, d}, nil, clocks(1, 2, 2, 1)},
		{"the others by rising Ids", v, []api.Item{alone(last, 1), alone(2, 9), alone(1, last), alone(2, 2), alone(1, 4), alone(1, 2)}, []api.Id{c}, []api.Id{id(1, 4), id(1, last), id(2, 2), id(2, 9), id(last, 1)}, clocks(1, 3)},
		{"Ids that numbers with a sign would order otherwise", nil, []api.Item{alone(math.MaxInt32+1, 0), alone(1, math.MaxInt32+1), alone(1, 7), alone(1, 0)}, []api.Id{a, id(math.MaxInt32+1, 0)}, []api.Id{id(1, 7), id(1, math.MaxInt32+1)}, clocks(1, 1, math.MaxInt32+1, 1)},
	}
}

// pick has the items of some Ids, in the order of the Ids.
func pick(l []api.Item, some []api.Id) []api.Item {
	var told []api.Item
	for _, a := range some {
		told = append(told, l[slices.IndexFunc(l, func(x api.Item) bool { return x.Id == a })])
	}
	return told
}

// P10.1 and P10.3: the edges, in all orders of the items.
func TestTake(t *testing.T) {
	for _, c := range edges() {
		// All fields of an item come and wait with it.
		for i := range c.l {
			c.l[i].Ch = rune('a' + i)
		}
		want := took{pick(c.l, c.come), pick(c.l, c.others), c.then}
		eachOrder(c.l, func(l []api.Item) {
			if got := take(c.v, l); !got.same(want) {
				t.Errorf("%s: Take(%v, %v) = %v, want %v", c.name, c.v, l, got, want)
			}
		})
	}
}

// P10.1 and P10.3: all short lists of small worlds, in all orders.
func TestTakeOfAllSmallLists(t *testing.T) {
	eachSmall(func(v []api.Clock, l []api.Item) {
		want := takeByWords(v, l)
		eachOrder(l, func(l []api.Item) {
			if got := take(v, l); !got.same(want) {
				t.Fatalf("Take(%v, %v) = %v, want %v", v, l, got, want)
			}
		})
	})
}

// P10.1 and P10.3: mixed items, in mixed orders.
func TestTakeOfMixedItems(t *testing.T) {
	came, waited := 0, 0
	eachMixed(func(m *mixer, v []api.Clock, l []api.Item) {
		want := takeByWords(v, l)
		came, waited = came+len(want.come), waited+len(want.others)
		for range 4 {
			if got := take(v, l); !got.same(want) {
				t.Fatalf("Take(%v, %v) = %v, want %v", v, l, got, want)
			}
			l = mix(m, l)
		}
	})
	if came < 1000 || waited < 1000 {
		t.Fatalf("%d came, %d waited: these items tell little", came, waited)
	}
}

// P10.3: none of the others is ready; what came and the others are what was handed in.
func TestNoneOfTheOthersIsReady(t *testing.T) {
	ask := func(v []api.Clock, l []api.Item) {
		t.Helper()
		got := take(v, l)
		for _, x := range got.others {
			if Ready(got.v, x) || readyByWords(got.v, x) {
				t.Fatalf("Take(%v, %v) = %v, but %v is ready", v, l, got, x)
			}
		}
		all := append(slices.Clone(got.come), got.others...)
		slices.SortFunc(all, itemsRise)
		want := slices.Clone(l)
		slices.SortFunc(want, itemsRise)
		if !slices.Equal(all, want) {
			t.Fatalf("Take(%v, %v) = %v", v, l, got)
		}
		if again := take(got.v, got.others); !again.same(took{nil, got.others, got.v}) {
			t.Fatalf("the others, taken again: %v", again)
		}
	}
	eachSmall(ask)
	eachMixed(func(m *mixer, v []api.Clock, l []api.Item) { ask(v, l) })
}

// P10.1: each one that comes is ready then, and is the least of the ones that are.
func TestEachThatComesIsTheLeastReady(t *testing.T) {
	eachMixed(func(m *mixer, v []api.Clock, l []api.Item) {
		got := take(v, l)
		then := slices.Clone(v)
		for i, x := range got.come {
			if !Ready(then, x) {
				t.Fatalf("Take(%v, %v): %v comes, but isn't ready", v, l, x)
			}
			for _, y := range append(slices.Clone(got.come[i:]), got.others...) {
				if itemsRise(y, x) < 0 && Ready(then, y) {
					t.Fatalf("Take(%v, %v): %v comes ahead of %v, that is ready", v, l, x, y)
				}
			}
			then = goOnByWords(then, x.Id)
		}
		if !slices.Equal(got.v, then) {
			t.Fatalf("Take(%v, %v): the vector is %v, want %v", v, l, got.v, then)
		}
	})
}

// checkTwoGoes asks that some, then the ones that waited with the rest, are as much as all at once.
func checkTwoGoes(t *testing.T, v []api.Clock, l []api.Item, first int) {
	t.Helper()
	want := take(v, l)
	one := take(v, l[:first])
	two := take(one.v, append(slices.Clone(one.others), l[first:]...))
	come := append(slices.Clone(one.come), two.come...)
	// Those that come are the same, but one that came in the first go may have come behind others.
	slices.SortFunc(come, itemsRise)
	slices.SortFunc(want.come, itemsRise)
	if got := (took{come, two.others, two.v}); !got.same(want) {
		t.Fatalf("from %v, %v, then %v: %v, want %v", v, l[:first], l[first:], got, want)
	}
}

// P10.3: what comes in two goes is as much as in one.
func TestTwoGoes(t *testing.T) {
	for _, c := range edges() {
		eachOrder(c.l, func(l []api.Item) {
			for first := range len(l) + 1 {
				checkTwoGoes(t, c.v, l, first)
			}
		})
	}
	eachMixed(func(m *mixer, v []api.Clock, l []api.Item) {
		for range 3 {
			checkTwoGoes(t, v, l, m.below(len(l)+1))
		}
	})
}

// P10.3: items that come one by one, in whatever order, all come in the end.
func TestOneByOne(t *testing.T) {
	eachMixed(func(m *mixer, v []api.Clock, l []api.Item) {
		want := take(v, l)
		got := took{v: v}
		for _, x := range l {
			next := take(got.v, append(got.others, x))
			got = took{append(got.come, next.come...), next.others, next.v}
		}
		slices.SortFunc(got.come, itemsRise)
		slices.SortFunc(want.come, itemsRise)
		if !got.same(want) {
			t.Fatalf("from %v, %v one by one: %v, want %v", v, l, got, want)
		}
	})
}

// P1 and P10.1: an item of the last Clock comes; no vector has a Next behind it, so that it stays, and the client isn't forgotten.
func TestTheLastClock(t *testing.T) {
	v := clocks(1, last, 2, 1)
	x, y, z := alone(1, last), behind(id(2, 1), id(1, 5)), behind(id(2, 2), id(1, last-1))
	if got, want := take(v, []api.Item{z, y, x}), (took{[]api.Item{x, y, z}, nil, clocks(1, last, 2, 3)}); !got.same(want) {
		t.Errorf("Take(%v, %v) = %v, want %v", v, []api.Item{z, y, x}, got, want)
	}
	if got, want := take(v, []api.Item{x}), (took{[]api.Item{x}, nil, v}); !got.same(want) {
		t.Errorf("Take(%v, %v) = %v, want %v", v, []api.Item{x}, got, want)
	}
}

// An item that the vector covers is never ready by the words of P10.1; it waits, and the vector doesn't go back by it.
func TestItemsThatAreCovered(t *testing.T) {
	v := clocks(1, 3, 2, 1)
	for _, x := range []api.Item{alone(1, 2), alone(1, 0), behind(id(1, 1), id(1, 0)), alone(2, 0)} {
		if Ready(v, x) {
			t.Errorf("Ready(%v, %v) = true", v, x)
		}
		if got, want := take(v, []api.Item{x}), (took{nil, []api.Item{x}, v}); !got.same(want) {
			t.Errorf("Take(%v, %v) = %v, want %v", v, []api.Item{x}, got, want)
		}
		y := behind(id(1, 3), x.Id)
		if got, want := take(v, []api.Item{y, x}), (took{[]api.Item{y}, []api.Item{x}, clocks(1, 4, 2, 1)}); !got.same(want) {
			t.Errorf("Take(%v, %v) = %v, want %v", v, []api.Item{y, x}, got, want)
		}
	}
}

// roomy has a list with room behind it, which an append to the list itself would write to.
func roomy[T any](l []T, spare T) []T {
	told := append(make([]T, 0, len(l)+8), l...)
	for range 8 {
		told = append(told, spare)
	}
	return told[:len(l)]
}

// whole has a list and the room behind it.
func whole[T any](l []T) []T { return l[:cap(l)] }

// spoil overwrites a list and the room behind it.
func spoil[T any](l []T, with T) {
	for i := range whole(l) {
		whole(l)[i] = with
	}
}

func (a took) clone() took {
	return took{slices.Clone(a.come), slices.Clone(a.others), slices.Clone(a.v)}
}

// P10.2 and R2: what is handed in stays, and isn't kept; what is told is new memory, no two lists of it the same.
func TestMemory(t *testing.T) {
	for _, c := range edges() {
		v, l := roomy(c.v, api.Clock{Client: 77, Next: 77}), roomy(c.l, alone(88, 88))
		wholeV, wholeL := slices.Clone(whole(v)), slices.Clone(whole(l))
		check := func(what string) {
			t.Helper()
			if !slices.Equal(whole(v), wholeV) || !slices.Equal(whole(l), wholeL) {
				t.Fatalf("%s: %s changes what is handed in: %v, %v", c.name, what, whole(v), whole(l))
			}
		}
		for _, x := range l {
			Ready(v, x)
		}
		check("Ready")
		got := take(v, l)
		want := got.clone()
		check("Take")
		again := take(v, l)
		spoil(got.come, alone(99, 99))
		if !slices.Equal(got.others, want.others) || !slices.Equal(got.v, want.v) {
			t.Fatalf("%s: what comes shares memory", c.name)
		}
		spoil(got.others, alone(99, 98))
		spoil(got.v, api.Clock{Client: 99, Next: 99})
		for _, x := range whole(got.come) {
			if x != alone(99, 99) {
				t.Fatalf("%s: what comes and the others share memory", c.name)
			}
		}
		check("what is told, spoilt,")
		if !again.same(want) {
			t.Fatalf("%s: Take tells the same memory twice", c.name)
		}
		spoil(v, api.Clock{Client: 99, Next: 99})
		spoil(l, alone(99, 99))
		if !again.same(want) {
			t.Fatalf("%s: Take tells memory that was handed in", c.name)
		}
	}
}

// R2: one Take tells nothing of another one.
func TestNothingIsKept(t *testing.T) {
	Take(nil, []api.Item{alone(1, 0), alone(2, 1)})
	if got, want := take(nil, []api.Item{alone(1, 1), alone(2, 0)}), (took{[]api.Item{alone(2, 0)}, []api.Item{alone(1, 1)}, clocks(2, 1)}); !got.same(want) {
		t.Errorf("Take tells what another one was told: %v", got)
	}
}

// longWays are ways in which n items, by numbers, all come, in the order of their numbers.
func longWays(n int) map[string]func(k int) api.Item {
	return map[string]func(k int) api.Item{
		"one client, one behind the other": func(k int) api.Item {
			if k == 0 {
				return alone(1, 0)
			}
			return behind(id(1, uint32(k)), id(1, uint32(k-1)))
		},
		"many clients, none behind another one": func(k int) api.Item { return alone(uint32(k+1), 0) },
		"many clients, each behind the one of the next greater Id": func(k int) api.Item {
			if k == 0 {
				return alone(uint32(n), 0)
			}
			return behind(id(uint32(n-k), 0), id(uint32(n-k+1), 0))
		},
		"many clients, all behind the first one": func(k int) api.Item {
			if k == 0 {
				return alone(uint32(n), 0)
			}
			return item(id(uint32(k), 0), id(uint32(n), 0), id(uint32(n), 0))
		},
		"two clients by turns, each between the last two": func(k int) api.Item {
			nth := func(k int) api.Id { return id(uint32(1+k%2), uint32(k/2)) }
			switch k {
			case 0:
				return item(nth(0), api.Id{}, api.Id{})
			case 1:
				return item(nth(1), nth(0), api.Id{})
			default:
				return item(nth(k), nth(k-2), nth(k-1))
			}
		},
	}
}

// P1 and P10.1: lists so long, and vectors of so many clients, that one would wait for a Take that goes through all of them for each item.
func TestLongLists(t *testing.T) {
	const n = 100000
	m := mixer(5)
	var many []api.Clock
	for k := range n {
		many = append(many, api.Clock{Client: uint32(n + 1 + k), Next: 7})
	}
	for name, way := range longWays(n) {
		var come []api.Item
		for k := range n {
			come = append(come, way(k))
		}
		backwards := slices.Clone(come)
		slices.Reverse(backwards)
		for _, v := range [][]api.Clock{nil, many} {
			for _, l := range [][]api.Item{come, backwards, mix(&m, come)} {
				got := take(v, l)
				if !slices.Equal(got.come, come) || len(got.others) != 0 {
					t.Fatalf("%s: %d came, %d didn't", name, len(got.come), len(got.others))
				}
				if !slices.Equal(got.v[len(got.v)-len(v):], v) {
					t.Fatalf("%s: the vector forgets clients", name)
				}
			}
		}
		rest := slices.Clone(come[1:])
		slices.SortFunc(rest, itemsRise)
		if got := take(nil, backwards[:n-1]); name != "many clients, none behind another one" && !got.same(took{nil, rest, nil}) {
			t.Fatalf("%s, but for the first one: %d came", name, len(got.come))
		}
	}
}
