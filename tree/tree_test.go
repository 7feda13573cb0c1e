package tree

import (
	"cmp"
	"math"
	"slices"
	"testing"

	"surcingle/api"
)

const last = math.MaxUint32

func id(client, clock uint32) api.Id { return api.Id{Client: client, Clock: clock} }

func item(a, left, right api.Id) api.Item {
	return api.Item{Id: a, Left: left, Right: right, Ch: 'x'}
}

// risesByWords compares Ids: by Client, then by Clock.
func risesByWords(a, b api.Id) int {
	return cmp.Or(cmp.Compare(a.Client, b.Client), cmp.Compare(a.Clock, b.Clock))
}

// knownByWords looks for each Id among all that are ahead.
func knownByWords(l []api.Item) bool {
	for i, x := range l {
		among := func(a api.Id) bool {
			return slices.ContainsFunc(l[:i], func(y api.Item) bool { return y.Id == a })
		}
		if x.Id.Client == 0 || among(x.Id) || x.Left.Client != 0 && !among(x.Left) || x.Right.Client != 0 && !among(x.Right) {
			return false
		}
	}
	return true
}

// hangsByWords tells on what each item hangs, and what else of x, that comes behind them all.
func hangsByWords(l []api.Item, x api.Item) (map[api.Id]Hang, Hang) {
	hangs := map[api.Id]Hang{}
	for _, y := range l {
		hangs[y.Id] = hangByWords(hangs, y)
	}
	return hangs, hangByWords(hangs, x)
}

func hangByWords(hangs map[api.Id]Hang, x api.Item) Hang {
	switch {
	case x.Right.Client != 0 && belowByWords(hangs, x.Right, x.Left):
		return Hang{On: x.Right}
	case x.Left.Client != 0:
		return Hang{On: x.Left, Right: true}
	default:
		return Hang{Right: true}
	}
}

// belowByWords goes up one by one.
func belowByWords(hangs map[api.Id]Hang, a, b api.Id) bool {
	if b.Client == 0 {
		return true
	}
	for a.Client != 0 {
		a = hangs[a].On
		if a == b {
			return true
		}
	}
	return false
}

// orderByWords goes down from the root, and looks for what hangs there among all items. It is not for long chains.
func orderByWords(l []api.Item) []api.Id {
	hangs, _ := hangsByWords(l, api.Item{})
	var told []api.Id
	var all func(h Hang)
	all = func(h Hang) {
		var here []api.Id
		for a, hang := range hangs {
			if hang == h {
				here = append(here, a)
			}
		}
		slices.SortFunc(here, risesByWords)
		for _, a := range here {
			// Nothing hangs on what is nothing's.
			if a.Client == 0 {
				told = append(told, a)
				continue
			}
			all(Hang{On: a})
			told = append(told, a)
			all(Hang{On: a, Right: true})
		}
	}
	all(Hang{Right: true})
	return told
}

// mixer tells numbers that look mixed, the same ones each time.
type mixer uint32

func (m *mixer) below(n int) int {
	*m = *m*1664525 + 1013904223
	return int(*m>>8) % n
}

// someIds are Ids of which neither Clients alone nor Clocks alone, nor numbers with a sign, tell the order. They rise.
func someIds() []api.Id {
	return []api.Id{id(1, 0), id(1, 7), id(1, last), id(2, 0), id(2, 5), id(7, 1), id(math.MaxInt32+1, 3), id(last, 0)}
}

// mixedIds has n Ids, no two the same, in mixed order.
func mixedIds(m *mixer, n int) []api.Id {
	var l []api.Id
	for i := range n {
		l = append(l, id([]uint32{1, 2, 3, last}[i%4], []uint32{0, 100, last - 1000}[i%3]+uint32(i)))
	}
	for i := range l {
		k := m.below(i + 1)
		l[i], l[k] = l[k], l[i]
	}
	return l
}

// mixedItems has n known items, each put between two of the reach ones that are nearest ahead of it, or of nothing.
func mixedItems(m *mixer, n, reach int) []api.Item {
	var l []api.Item
	other := func() api.Id {
		if len(l) == 0 || m.below(6) == 0 {
			return id(0, uint32(m.below(3)))
		}
		return l[len(l)-1-m.below(min(len(l), reach))].Id
	}
	for _, a := range mixedIds(m, n) {
		l = append(l, item(a, other(), other()))
	}
	return l
}

// eachMixed hands in known items of all kinds: few and many, in short chains and in long ones.
func eachMixed(call func(m *mixer, l []api.Item)) {
	m := mixer(7)
	for _, reach := range []int{1, 2, 3, 5, 40} {
		for range 60 {
			call(&m, mixedItems(&m, m.below(40), reach))
		}
	}
}

// eachSmall hands in all known items, up to n, that have the first of these Ids, in whatever order.
func eachSmall(n int, call func(l []api.Item)) {
	all := []api.Id{id(1, 0), id(1, 1), id(2, 0), id(3, 0)}[:n]
	var more func(l []api.Item)
	more = func(l []api.Item) {
		call(l)
		others := []api.Id{{}}
		for _, x := range l {
			others = append(others, x.Id)
		}
		for _, a := range all {
			if slices.Contains(others, a) {
				continue
			}
			for _, left := range others {
				for _, right := range others {
					more(append(slices.Clone(l), item(a, left, right)))
				}
			}
		}
	}
	more(nil)
}

// idsOf has the items' Ids, as they come.
func idsOf(l []api.Item) []api.Id {
	var told []api.Id
	for _, x := range l {
		told = append(told, x.Id)
	}
	return told
}

// P8.1: no items, one, Client 0, two of one Id, a Left and a Right that are ahead, are not, or are nothing's.
func TestKnown(t *testing.T) {
	none, a, b, c := api.Id{}, id(1, 0), id(1, 1), id(2, 0)
	for _, x := range []struct {
		name string
		l    []api.Item
		want bool
	}{
		{"nil", nil, true},
		{"no items", []api.Item{}, true},
		{"one item", []api.Item{item(a, none, none)}, true},
		{"one item that isn't the first of its client", []api.Item{item(id(5, 9), none, none)}, true},
		{"the last Id", []api.Item{item(id(last, last), none, none)}, true},
		{"the least and the last, on each other", []api.Item{item(a, none, none), item(id(last, last), a, none), item(b, a, id(last, last))}, true},
		{"the zero Id", []api.Item{item(none, none, none)}, false},
		{"the zero item", []api.Item{{}}, false},
		{"Client 0", []api.Item{item(id(0, 5), none, none)}, false},
		{"Client 0 at the end", []api.Item{item(a, none, none), item(b, a, none), item(id(0, 5), b, none)}, false},
		{"Client 0 at the beginning", []api.Item{item(id(0, 5), none, none), item(a, none, none)}, false},
		{"two of one Id", []api.Item{item(a, none, none), item(a, none, none)}, false},
		{"two of one Id, unlike", []api.Item{item(a, none, none), item(b, a, none), {Id: a, Left: b, Ch: 'y'}}, false},
		{"one Clock, two Clients", []api.Item{item(id(1, 4), none, none), item(id(2, 4), none, none)}, true},
		{"one Client, two Clocks", []api.Item{item(id(4, 1), none, none), item(id(4, 2), none, none)}, true},
		{"Client and Clock the other way round", []api.Item{item(id(1, 2), none, none), item(id(2, 1), none, none)}, true},
		{"Ids that fall", []api.Item{item(c, none, none), item(b, none, none), item(a, none, none)}, true},
		{"Left ahead", []api.Item{item(a, none, none), item(b, none, none), item(c, a, none)}, true},
		{"Right ahead", []api.Item{item(a, none, none), item(b, none, none), item(c, none, a)}, true},
		{"both ahead", []api.Item{item(a, none, none), item(b, none, none), item(c, b, a)}, true},
		{"Left is Right", []api.Item{item(a, none, none), item(b, a, a)}, true},
		{"Left nowhere", []api.Item{item(a, none, none), item(b, c, none)}, false},
		{"Right nowhere", []api.Item{item(a, none, none), item(b, none, c)}, false},
		{"Left nowhere, Right ahead", []api.Item{item(a, none, none), item(b, c, a)}, false},
		{"Right nowhere, Left ahead", []api.Item{item(a, none, none), item(b, a, c)}, false},
		{"Left nowhere, of the first one", []api.Item{item(b, a, none)}, false},
		{"Right nowhere, of the first one", []api.Item{item(b, none, a)}, false},
		{"Left behind it", []api.Item{item(b, a, none), item(a, none, none)}, false},
		{"Right behind it", []api.Item{item(b, none, a), item(a, none, none)}, false},
		{"Left that it is", []api.Item{item(a, a, none)}, false},
		{"Right that it is", []api.Item{item(a, none, a)}, false},
		{"Left of the right Client, another Clock", []api.Item{item(a, none, none), item(c, id(1, 1), none)}, false},
		{"Right of the right Clock, another Client", []api.Item{item(a, none, none), item(c, none, id(3, 0))}, false},
		{"Left of nothing, with a Clock", []api.Item{item(a, none, none), item(b, id(0, 9), none)}, true},
		{"Right of nothing, with a Clock", []api.Item{item(a, none, none), item(b, none, id(0, last))}, true},
		{"both of nothing, of the first one", []api.Item{item(a, id(0, 1), id(0, 2))}, true},
		{"a fault in the middle", []api.Item{item(a, none, none), item(b, c, none), item(c, a, none)}, false},
	} {
		if got := Known(x.l); got != x.want {
			t.Errorf("%s: Known(%v) = %v", x.name, x.l, got)
		}
	}
}

// P8.1 and P1: all lists of up to three items of some Ids, one of them nothing's, with any Left and Right of these.
func TestKnownAtAllShortLists(t *testing.T) {
	some := []api.Id{id(0, 1), id(1, 0), id(1, 1), id(2, 0)}
	var items []api.Item
	for _, a := range some {
		for _, left := range some {
			for _, right := range some {
				items = append(items, item(a, left, right))
			}
		}
	}
	var more func(l []api.Item)
	more = func(l []api.Item) {
		if got, want := Known(l), knownByWords(l); got != want {
			t.Fatalf("Known(%v) = %v, want %v", l, got, want)
		}
		if len(l) == 3 {
			return
		}
		for _, x := range items {
			more(append(l[:len(l):len(l)], x))
		}
	}
	more(nil)
}

// P8.1: known items, of which one thing or another is changed.
func TestKnownOfMixedItems(t *testing.T) {
	eachMixed(func(m *mixer, l []api.Item) {
		if !Known(l) {
			t.Fatalf("Known(%v) = false", l)
		}
		if len(l) == 0 {
			return
		}
		at, other := m.below(len(l)), l[m.below(len(l))].Id
		for _, change := range []func(x *api.Item){
			func(x *api.Item) { x.Id = other },
			func(x *api.Item) { x.Id.Client = 0 },
			func(x *api.Item) { x.Left = other },
			func(x *api.Item) { x.Right = other },
			func(x *api.Item) { x.Left = id(9, 9) },
			func(x *api.Item) { x.Right = id(9, 9) },
			func(x *api.Item) { x.Left = api.Id{} },
			func(x *api.Item) { x.Right = api.Id{} },
		} {
			changed := slices.Clone(l)
			change(&changed[at])
			if got, want := Known(changed), knownByWords(changed); got != want {
				t.Fatalf("Known(%v) = %v, want %v", changed, got, want)
			}
		}
	})
}

// P8.1: no items; each kind of Left and Right.
func TestPlace(t *testing.T) {
	none, a, b, c, d, e := api.Id{}, id(1, 0), id(1, 1), id(2, 0), id(3, 0), id(3, 1)
	// d c b stand to the left of one another, on a's right side, and e on the root.
	l := []api.Item{item(a, none, none), item(b, a, none), item(c, a, b), item(d, a, c), item(e, none, none)}
	onRoot := Hang{Right: true}
	for _, x := range []struct {
		name        string
		l           []api.Item
		left, right api.Id
		want        Hang
	}{
		{"no items", nil, none, none, onRoot},
		{"an empty list", []api.Item{}, none, none, onRoot},
		{"no items, nothing's with Clocks", nil, id(0, 3), id(0, 4), onRoot},
		{"nothing's both", l, none, none, onRoot},
		{"nothing's both, with Clocks", l, id(0, 1), id(0, last), onRoot},
		{"Left alone", l, a, none, Hang{On: a, Right: true}},
		{"Left alone, Right of nothing with a Clock", l, b, id(0, 1), Hang{On: b, Right: true}},
		{"Right on the root", l, none, a, Hang{On: a}},
		{"Right on the root, Left of nothing with a Clock", l, id(0, 9), e, Hang{On: e}},
		{"Right deep down, Left nothing's", l, none, d, Hang{On: d}},
		{"Right on Left's right side", l, a, b, Hang{On: b}},
		{"Right on Left's left side", l, b, c, Hang{On: c}},
		{"Right two below Left", l, b, d, Hang{On: d}},
		{"Right three below Left", l, a, d, Hang{On: d}},
		{"Right that is Left", l, b, b, Hang{On: b, Right: true}},
		{"Right that is Left, on the root", l, a, a, Hang{On: a, Right: true}},
		{"Right that is above Left", l, d, a, Hang{On: d, Right: true}},
		{"Right that Left hangs on", l, c, b, Hang{On: c, Right: true}},
		{"Right below the root alone", l, a, e, Hang{On: a, Right: true}},
		{"Right below the root alone, Left deep down", l, d, e, Hang{On: d, Right: true}},
		{"Right below another one", l, e, d, Hang{On: e, Right: true}},
	} {
		if got := Place(x.l, item(id(9, 0), x.left, x.right)); got != x.want {
			t.Errorf("%s: Place(%v, %v) = %v, want %v", x.name, x.left, x.right, got, x.want)
		}
	}
}

// P8.1: an item that was put ahead of b, but hangs on a, as b is not below a: it is below a alone.
func TestPlaceGoesByWhatRightHangsOn(t *testing.T) {
	none, a, b, c := api.Id{}, id(1, 0), id(2, 0), id(3, 0)
	l := []api.Item{item(a, none, none), item(b, none, none), item(c, a, b)}
	for _, x := range []struct {
		left, right api.Id
		want        Hang
	}{
		{a, c, Hang{On: c}},
		{b, c, Hang{On: b, Right: true}},
		{c, b, Hang{On: c, Right: true}},
		{none, c, Hang{On: c}},
	} {
		if got := Place(l, item(id(9, 0), x.left, x.right)); got != x.want {
			t.Errorf("Place(%v, %v) = %v, want %v", x.left, x.right, got, x.want)
		}
	}
}

// checkPlaces asks Place of any Left and Right that are among the items, and of the items themselves.
func checkPlaces(t *testing.T, l []api.Item) {
	t.Helper()
	others := append([]api.Id{{}, id(0, last)}, idsOf(l)...)
	for _, left := range others {
		for _, right := range others {
			x := item(id(9, 0), left, right)
			if _, want := hangsByWords(l, x); Place(l, x) != want {
				t.Fatalf("Place(%v, %v) = %v, want %v", l, x, Place(l, x), want)
			}
		}
	}
	for _, x := range l {
		if _, want := hangsByWords(l, x); Place(l, x) != want {
			t.Fatalf("Place(%v, %v) = %v, want %v", l, x, Place(l, x), want)
		}
	}
}

func TestPlaceAtAllSmall(t *testing.T) {
	eachSmall(3, func(l []api.Item) { checkPlaces(t, l) })
}

func TestPlaceOfMixedItems(t *testing.T) {
	eachMixed(func(m *mixer, l []api.Item) { checkPlaces(t, l[:min(len(l), 12)]) })
	eachMixed(func(m *mixer, l []api.Item) {
		if len(l) == 0 {
			return
		}
		for range 10 {
			x := item(id(9, 0), l[m.below(len(l))].Id, l[m.below(len(l))].Id)
			if _, want := hangsByWords(l, x); Place(l, x) != want {
				t.Fatalf("Place(%v, %v) = %v, want %v", l, x, Place(l, x), want)
			}
		}
	})
}

// P8.1: where an item hangs neither its Id nor its character tells.
func TestPlaceAsksLeftAndRightAlone(t *testing.T) {
	left, right := id(1, 3), id(2, 0)
	l := []api.Item{item(left, api.Id{}, api.Id{}), item(right, left, api.Id{})}
	for _, a := range someIds() {
		for _, ch := range []rune{0, 'a', 0x10ffff} {
			x := api.Item{Id: a, Left: left, Right: right, Ch: ch}
			if got, want := Place(l, x), (Hang{On: right}); got != want {
				t.Errorf("Place of %v = %v, want %v", x, got, want)
			}
			x.Left, x.Right = right, left
			if got, want := Place(l, x), (Hang{On: right, Right: true}); got != want {
				t.Errorf("Place of %v = %v, want %v", x, got, want)
			}
		}
	}
}

// P8.1, the document's example among them.
func TestOrder(t *testing.T) {
	none, a, b, c, d, e := api.Id{}, id(1, 0), id(1, 1), id(2, 0), id(3, 0), id(3, 1)
	for _, x := range []struct {
		name string
		l    []api.Item
		want []api.Id
	}{
		{"nil", nil, nil},
		{"no items", []api.Item{}, nil},
		{"one item", []api.Item{item(c, none, none)}, []api.Id{c}},
		{"one item, between what is nothing's", []api.Item{item(c, id(0, 4), id(0, 5))}, []api.Id{c}},
		{"an item of Client 0", []api.Item{item(id(0, 5), none, none)}, []api.Id{id(0, 5)}},
		{"the zero Id", []api.Item{item(none, none, none)}, []api.Id{none}},
		{"an item of Client 0 among others", []api.Item{item(a, none, none), item(id(0, 5), none, none), item(b, id(0, 5), none), item(c, a, none)},
			[]api.Id{id(0, 5), a, c, b}},
		{"the zero Id among others", []api.Item{item(a, none, none), item(none, none, none), item(b, none, a), item(c, none, none)},
			[]api.Id{none, b, a, c}},
		{"the document's example", []api.Item{item(a, none, none), item(b, a, none), item(c, a, b)}, []api.Id{a, c, b}},
		{"on the root, rising", []api.Item{item(a, none, none), item(b, none, none), item(c, none, none), item(d, none, none)}, []api.Id{a, b, c, d}},
		{"on the root, falling", []api.Item{item(d, none, none), item(c, none, none), item(b, none, none), item(a, none, none)}, []api.Id{a, b, c, d}},
		{"to the right, rising", []api.Item{item(a, none, none), item(b, a, none), item(c, a, none), item(d, a, none)}, []api.Id{a, b, c, d}},
		{"to the right, falling", []api.Item{item(a, none, none), item(d, a, none), item(c, a, none), item(b, a, none)}, []api.Id{a, b, c, d}},
		{"to the right, on one of a greater Id", []api.Item{item(d, none, none), item(c, d, none), item(b, d, none), item(a, d, none)}, []api.Id{d, a, b, c}},
		{"to the left, rising", []api.Item{item(d, none, none), item(a, none, d), item(b, none, d), item(c, none, d)}, []api.Id{a, b, c, d}},
		{"to the left, falling", []api.Item{item(d, none, none), item(c, none, d), item(b, none, d), item(a, none, d)}, []api.Id{a, b, c, d}},
		{"to the left, on one of a lesser Id", []api.Item{item(a, none, none), item(d, none, a), item(c, none, a), item(b, none, a)}, []api.Id{b, c, d, a}},
		{"to the left, behind what they are put behind", []api.Item{item(a, none, none), item(b, a, none), item(d, a, b), item(c, a, b)}, []api.Id{a, c, d, b}},
		{"to both sides", []api.Item{item(c, none, none), item(d, none, c), item(b, none, c), item(e, c, none), item(a, c, none)}, []api.Id{b, d, c, a, e}},
		{"a chain to the right", []api.Item{item(e, none, none), item(a, e, none), item(d, a, none), item(b, d, none)}, []api.Id{e, a, d, b}},
		{"a chain to the left", []api.Item{item(e, none, none), item(a, none, e), item(d, none, a), item(b, none, d)}, []api.Id{b, d, a, e}},
		{"a chain to the left, behind one", []api.Item{item(e, none, none), item(a, e, none), item(d, e, a), item(b, e, d)}, []api.Id{e, b, d, a}},
		{"two chains to the right, each on its own", []api.Item{item(a, none, none), item(c, none, none), item(b, a, none), item(d, c, none)}, []api.Id{a, b, c, d}},
		{"two chains to the right of one", []api.Item{item(a, none, none), item(b, a, none), item(c, a, none), item(e, b, none), item(d, c, none)}, []api.Id{a, b, e, c, d}},
		{"two chains to the left of one", []api.Item{item(e, none, none), item(a, none, e), item(b, none, e), item(d, none, a), item(c, none, b)}, []api.Id{d, a, c, b, e}},
		{"a Right below the root alone", []api.Item{item(a, none, none), item(c, none, none), item(d, a, c)}, []api.Id{a, d, c}},
		{"a Right ahead of Left", []api.Item{item(a, none, none), item(c, none, none), item(d, c, a)}, []api.Id{a, c, d}},
		{"a Right that is Left", []api.Item{item(a, none, none), item(b, a, a)}, []api.Id{a, b}},
		{"a Right that Left hangs on", []api.Item{item(a, none, none), item(b, a, none), item(c, b, a)}, []api.Id{a, b, c}},
		{"a Right two below Left", []api.Item{item(a, none, none), item(b, a, none), item(c, b, none), item(d, a, c)}, []api.Id{a, b, d, c}},
		{"Clients count ahead of Clocks", []api.Item{item(id(2, 0), none, none), item(id(1, 9), none, none), item(id(3, 0), none, none), item(id(1, 10), none, none)},
			[]api.Id{id(1, 9), id(1, 10), id(2, 0), id(3, 0)}},
	} {
		if got := Order(x.l); !slices.Equal(got, x.want) {
			t.Errorf("%s: Order = %v, want %v", x.name, got, x.want)
		}
	}
}

// P8.1: Ids at the edges of their numbers, on the root and on both sides of one, however they come.
func TestOrderRises(t *testing.T) {
	top, m := id(5, 5), mixer(1)
	for range 50 {
		some := someIds()
		for i := range some {
			k := m.below(i + 1)
			some[i], some[k] = some[k], some[i]
		}
		root, left, right := []api.Item{}, []api.Item{item(top, api.Id{}, api.Id{})}, []api.Item{item(top, api.Id{}, api.Id{})}
		for _, a := range some {
			root = append(root, item(a, api.Id{}, api.Id{}))
			left = append(left, item(a, api.Id{}, top))
			right = append(right, item(a, top, api.Id{}))
		}
		if got := Order(root); !slices.Equal(got, someIds()) {
			t.Fatalf("on the root, from %v: %v", some, got)
		}
		if got := Order(left); !slices.Equal(got, append(someIds(), top)) {
			t.Fatalf("to the left, from %v: %v", some, got)
		}
		if got := Order(right); !slices.Equal(got, append([]api.Id{top}, someIds()...)) {
			t.Fatalf("to the right, from %v: %v", some, got)
		}
	}
}

// checkOrder asks what P8.1 says; and that all Ids are told, each once.
func checkOrder(t *testing.T, l []api.Item) {
	t.Helper()
	got := Order(l)
	if want := orderByWords(l); !slices.Equal(got, want) {
		t.Fatalf("Order(%v) = %v, want %v", l, got, want)
	}
	all := idsOf(l)
	slices.SortFunc(all, risesByWords)
	slices.SortFunc(got, risesByWords)
	if !slices.Equal(got, all) {
		t.Fatalf("Order(%v) tells %v", l, got)
	}
}

func TestOrderAtAllSmall(t *testing.T) {
	count := 0
	eachSmall(4, func(l []api.Item) {
		checkOrder(t, l)
		count++
	})
	// Of 0 to 4 of 4 Ids, in whatever order, the k-th with any of k others, or nothing, on either side.
	if want := 1 + 4 + 12*4 + 24*4*9 + 24*4*9*16; count != want {
		t.Errorf("%d lists, want %d", count, want)
	}
}

func TestOrderOfMixedItems(t *testing.T) {
	eachMixed(func(m *mixer, l []api.Item) { checkOrder(t, l) })
}

// handIn tells known items in another order in which they are known: pick tells which of so many that may come next comes.
func handIn(l []api.Item, pick func(n int) int) []api.Item {
	waiting, come := slices.Clone(l), map[api.Id]bool{}
	has := func(a api.Id) bool { return a.Client == 0 || come[a] }
	var told []api.Item
	for len(waiting) > 0 {
		var ready []int
		for i, x := range waiting {
			if has(x.Left) && has(x.Right) {
				ready = append(ready, i)
			}
		}
		at := ready[pick(len(ready))]
		told, come[waiting[at].Id] = append(told, waiting[at]), true
		waiting = slices.Delete(waiting, at, at+1)
	}
	return told
}

// checkOtherOrders hands in the same items in orders that are as unlike as they may be, and in mixed ones.
func checkOtherOrders(t *testing.T, m *mixer, l []api.Item) {
	t.Helper()
	want, x := Order(l), item(id(9, 0), api.Id{}, api.Id{})
	if len(l) > 0 {
		x.Left, x.Right = l[m.below(len(l))].Id, l[m.below(len(l))].Id
	}
	rising := slices.SortedFunc(slices.Values(l), func(x, y api.Item) int { return risesByWords(x.Id, y.Id) })
	for _, other := range [][]api.Item{
		handIn(l, func(n int) int { return n - 1 }),
		handIn(rising, func(n int) int { return 0 }),
		handIn(rising, func(n int) int { return n - 1 }),
		handIn(l, m.below),
		handIn(l, m.below),
	} {
		if !Known(other) {
			t.Fatalf("Known(%v) = false", other)
		}
		if got := Order(other); !slices.Equal(got, want) {
			t.Fatalf("Order(%v) = %v, but Order(%v) = %v", l, want, other, got)
		}
		if Place(other, x) != Place(l, x) {
			t.Fatalf("Place of %v differs in %v and %v", x, l, other)
		}
	}
}

// P8.3: in whatever order known items are handed in, the order is the same.
func TestOrderHangsOnItemsAlone(t *testing.T) {
	m := mixer(11)
	eachSmall(3, func(l []api.Item) { checkOtherOrders(t, &m, l) })
	eachMixed(func(m *mixer, l []api.Item) { checkOtherOrders(t, m, l) })
}

// P8.3: nor does the order hang on characters, or on which Id that is nothing's there is.
func TestOrderIgnoresWhatTellsNothing(t *testing.T) {
	eachMixed(func(m *mixer, l []api.Item) {
		want := Order(l)
		other := slices.Clone(l)
		for i := range other {
			other[i].Ch = rune(m.below(1000))
			if other[i].Left.Client == 0 {
				other[i].Left.Clock = uint32(m.below(1000))
			}
			if other[i].Right.Client == 0 {
				other[i].Right.Clock = uint32(m.below(1000))
			}
		}
		if got := Order(other); !slices.Equal(got, want) {
			t.Fatalf("Order(%v) = %v, but Order(%v) = %v", l, want, other, got)
		}
	})
}

// between tells the Ids that stand on both sides of a place in an order.
func between(order []api.Id, at int) (left, right api.Id) {
	if at > 0 {
		left = order[at-1]
	}
	if at < len(order) {
		right = order[at]
	}
	return left, right
}

// checkPut puts one more at all places between two that stand side by side, and at both ends.
func checkPut(t *testing.T, l []api.Item, news []api.Id) {
	t.Helper()
	order := Order(l)
	for at := range len(order) + 1 {
		left, right := between(order, at)
		for _, a := range news {
			told := Order(append(slices.Clone(l), item(a, left, right)))
			if !slices.Equal(told, slices.Insert(slices.Clone(order), at, a)) {
				t.Fatalf("of %v, with %v between %v and %v: %v", l, a, left, right, told)
			}
		}
	}
}

// P8.3: what is put between two that stand side by side stands there, whether its Id is less than theirs, or greater.
func TestPutBetween(t *testing.T) {
	eachSmall(3, func(l []api.Item) { checkPut(t, l, []api.Id{id(1, 2), id(2, 1), id(4, 0)}) })
	// None of the mixed items has such an Id: their Clocks are below 2000, or close to the last one.
	eachMixed(func(m *mixer, l []api.Item) { checkPut(t, l, []api.Id{id(1, 5000), id(2, 5000), id(last, last)}) })
}

// P8.3: so does each of many that are put one by one, in mixed places, and as writers do: behind the last one put, or ahead of it.
func TestPutBetweenAgainAndAgain(t *testing.T) {
	m := mixer(23)
	for round := range 30 {
		var l []api.Item
		var want []api.Id
		at := 0
		for _, a := range mixedIds(&m, 150) {
			switch way := m.below(20); {
			case way == 0 || round%3 == 0:
				at = m.below(len(want) + 1)
			case way < 12 && at < len(want) && round%3 == 1:
				at++
			}
			left, right := between(want, at)
			l = append(l, item(a, left, right))
			want = slices.Insert(want, at, a)
		}
		if got := Order(l); !slices.Equal(got, want) {
			t.Fatalf("round %d: Order(%v) = %v, want %v", round, l, got, want)
		}
	}
}

// nth is the Id of a chain's item of a number.
func nth(n int) api.Id { return id(1, uint32(n)) }

// chain has n items: one on the root, one behind it, and each other one put where put tells.
func chain(n int, put func(k int) (left, right api.Id)) []api.Item {
	l := []api.Item{item(nth(0), api.Id{}, api.Id{}), item(nth(1), nth(0), api.Id{})}
	for k := 2; k < n; k++ {
		left, right := put(k)
		l = append(l, item(nth(k), left, right))
	}
	return l
}

// steps has the Ids of a chain's items, from one number on up to another one, without that.
func steps(from, to, step int) []api.Id {
	var l []api.Id
	for k := from; k != to; k += step {
		l = append(l, nth(k))
	}
	return l
}

// P1, P8.1 and P8.3: chains so long that one would wait for a call that goes up all of one for each item.
func TestLongChains(t *testing.T) {
	const n, half = 200000, 100000
	for _, c := range []struct {
		name string
		put  func(k int) (left, right api.Id)
		want []api.Id
	}{
		{"each behind the last one",
			func(k int) (left, right api.Id) { return nth(k - 1), api.Id{} },
			steps(0, n, 1)},
		{"each ahead of the one put last",
			func(k int) (left, right api.Id) { return api.Id{}, nth(k - 1) },
			slices.Concat(steps(0, 1, 1), steps(n-1, 0, -1))},
		{"each between the first one and the one put last",
			func(k int) (left, right api.Id) { return nth(0), nth(k - 1) },
			slices.Concat(steps(0, 1, 1), steps(n-1, 0, -1))},
		{"each between the one put last and the second one",
			func(k int) (left, right api.Id) {
				if k == 2 {
					return nth(0), nth(1)
				}
				return nth(k - 1), nth(1)
			},
			slices.Concat(steps(0, 1, 1), steps(2, n, 1), steps(1, 2, 1))},
		{"each between the two put last",
			func(k int) (left, right api.Id) {
				if k%2 == 0 {
					return nth(k - 2), nth(k - 1)
				}
				return nth(k - 1), nth(k - 2)
			},
			slices.Concat(steps(0, n, 2), steps(n-1, -1, -2))},
		{"a chain, and many behind its first one, ahead of its last one",
			func(k int) (left, right api.Id) {
				if k < half {
					return nth(k - 1), api.Id{}
				}
				return nth(0), nth(half - 1)
			},
			slices.Concat(steps(0, half-1, 1), steps(half, n, 1), steps(half-1, half, 1))},
		{"a chain, and many behind its last one, ahead of its first one",
			func(k int) (left, right api.Id) {
				if k < half {
					return nth(k - 1), api.Id{}
				}
				return nth(half - 1), nth(0)
			},
			steps(0, n, 1)},
	} {
		l := chain(n, c.put)
		if !Known(l) {
			t.Errorf("%s: not known", c.name)
		}
		if got := Order(l); !slices.Equal(got, c.want) {
			t.Errorf("%s: another order", c.name)
		}
		if got, want := Place(l, item(id(2, 0), nth(0), nth(1))), (Hang{On: nth(1)}); got != want {
			t.Errorf("%s: Place = %v, want %v", c.name, got, want)
		}
	}
}

// P8.2 and R2: no call changes what it is handed, or the room behind it, or keeps it; what Order tells is new memory.
func TestMemory(t *testing.T) {
	spoilt := item(id(7, 7), id(7, 6), id(7, 5))
	eachMixed(func(m *mixer, l []api.Item) {
		whole := append(slices.Clone(l), spoilt, spoilt, spoilt)
		before := slices.Clone(whole)
		handed := whole[:len(l)]
		x := item(id(9, 0), api.Id{}, api.Id{})
		if len(l) > 0 {
			x.Left, x.Right = l[m.below(len(l))].Id, l[m.below(len(l))].Id
		}
		want, hang := orderByWords(l), Place(handed, x)
		told, again := Order(handed), Order(handed)
		if !Known(handed) || !slices.Equal(whole, before) {
			t.Fatalf("what is handed in is changed: %v, from %v", whole, before)
		}
		for i := range told[:cap(told)] {
			told[:cap(told)][i] = spoilt.Id
		}
		if !slices.Equal(again, want) || !slices.Equal(Order(handed), want) || !slices.Equal(whole, before) {
			t.Fatalf("what Order tells of %v is not new memory", l)
		}
		for i := range whole {
			whole[i] = spoilt
		}
		if !slices.Equal(again, want) || !slices.Equal(Order(l), want) || Place(l, x) != hang || !Known(l) {
			t.Fatalf("what is handed in is kept: of %v", l)
		}
		if Known(handed) && len(l) > 0 {
			t.Fatalf("Known keeps what it was handed: %v", l)
		}
	})
}
