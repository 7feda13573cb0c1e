package list

import (
	"errors"
	"maps"
	"math"
	"slices"
	"testing"
	"unicode/utf8"

	"surcingle/api"
	"surcingle/tree"
)

const last = math.MaxUint32

func id(client, clock uint32) api.Id { return api.Id{Client: client, Clock: clock} }

func item(a, left, right api.Id, ch rune) api.Item {
	return api.Item{Id: a, Left: left, Right: right, Ch: ch}
}

// words are what the chapter's words make a list: items as they came, and the Ids of those that are deleted.
type words struct {
	items []api.Item
	gone  map[api.Id]bool
}

func (w words) clone() words {
	return words{slices.Clone(w.items), maps.Clone(w.gone)}
}

// add and del tell new ones.
func (w words) add(i api.Item, gone bool) words {
	told := w.clone()
	told.items = append(told.items, i)
	if gone {
		told = told.del(i.Id)
	}
	return told
}

func (w words) del(a api.Id) words {
	told := w.clone()
	if told.gone == nil {
		told.gone = map[api.Id]bool{}
	}
	told.gone[a] = true
	return told
}

func (w words) item(a api.Id) (api.Item, bool) {
	for _, i := range w.items {
		if i.Id == a {
			return i, true
		}
	}
	return api.Item{}, false
}

// entries are by layer 8's order of all items; the list asks it of none but two.
func (w words) entries() []api.Entry {
	characters := map[api.Id]rune{}
	for _, i := range w.items {
		characters[i.Id] = i.Ch
	}
	var l []api.Entry
	for _, a := range tree.Order(w.items) {
		l = append(l, api.Entry{Id: a, Ch: characters[a], Gone: w.gone[a]})
	}
	return l
}

// placesOf are the places of the entries that aren't Gone.
func placesOf(l []api.Entry) []int {
	var places []int
	for at, e := range l {
		if !e.Gone {
			places = append(places, at)
		}
	}
	return places
}

func textOf(l []api.Entry) string {
	var text []byte
	for _, at := range placesOf(l) {
		text = utf8.AppendRune(text, l[at].Ch)
	}
	return string(text)
}

func idsOf(l []api.Entry) []api.Id {
	var told []api.Id
	for _, at := range placesOf(l) {
		told = append(told, l[at].Id)
	}
	return told
}

// betweenByWords is Between at a place that there is.
func betweenByWords(l []api.Entry, k int) (left, right api.Id) {
	behind := 0
	if k > 0 {
		at := placesOf(l)[k-1]
		left, behind = l[at].Id, at+1
	}
	if behind < len(l) {
		right = l[behind].Id
	}
	return left, right
}

// far are numbers that are no place of n characters; the greatest ones would wrap round in a sum.
func far(n int) []int {
	return []int{-1, -2, math.MinInt32, math.MinInt, n + 1, n + 2, math.MaxInt32, math.MaxUint32, math.MaxInt - 1, math.MaxInt}
}

// absent are Ids that no list here has.
func absent() []api.Id {
	return []api.Id{{}, id(0, 1), id(0, last), id(1, 9999), id(9, 0), id(9, last), id(9999, 1), id(last, 9999)}
}

func checkCode(t *testing.T, name string, err error, want api.Code) {
	t.Helper()
	if err != want {
		t.Fatalf("%s: error %v, want %v", name, err, want)
	}
	var fault *api.Fault
	if errors.As(err, &fault) {
		t.Fatalf("%s: the error is wrapped", name)
	}
}

// checkIndex asks Index and Text.
func checkIndex(t *testing.T, name string, x List, l []api.Entry) {
	t.Helper()
	order := x.Index()
	if got := order.All(); !slices.Equal(got, l) {
		t.Fatalf("%s: Index().All() = %v, want %v", name, got, l)
	}
	if order.Len() != len(l) || order.Shown() != len(placesOf(l)) {
		t.Fatalf("%s: %d entries, %d shown, want %v", name, order.Len(), order.Shown(), l)
	}
	if got, want := x.Text(), textOf(l); got != want {
		t.Fatalf("%s: Text() = %q, want %q", name, got, want)
	}
}

// checkItems asks Item of each Id that there is, and of some that there aren't.
func checkItems(t *testing.T, name string, x List, l []api.Item) {
	t.Helper()
	for _, i := range l {
		if got, has := x.Item(i.Id); got != i || !has {
			t.Fatalf("%s: Item(%v) = %v, %v, want %v", name, i.Id, got, has, i)
		}
	}
	for _, a := range absent() {
		if got, has := x.Item(a); got != (api.Item{}) || has {
			t.Fatalf("%s: Item(%v) = %v, %v, want none", name, a, got, has)
		}
	}
}

// checkBetween asks Between at all places, and beyond them.
func checkBetween(t *testing.T, name string, x List, l []api.Entry) {
	t.Helper()
	shown := len(placesOf(l))
	for k := range shown + 1 {
		wantLeft, wantRight := betweenByWords(l, k)
		left, right, err := x.Between(k)
		if left != wantLeft || right != wantRight || err != nil {
			t.Fatalf("%s: Between(%d) of %v = %v, %v, %v, want %v, %v", name, k, l, left, right, err, wantLeft, wantRight)
		}
	}
	for _, k := range far(shown) {
		left, right, err := x.Between(k)
		checkCode(t, name, err, api.ErrRange)
		if left != (api.Id{}) || right != (api.Id{}) {
			t.Fatalf("%s: Between(%d) = %v, %v beside an error", name, k, left, right)
		}
	}
}

// checkShown asks Shown of all that there is, and of one more, and of many more, from each place on.
func checkShown(t *testing.T, name string, x List, l []api.Entry) {
	t.Helper()
	all := idsOf(l)
	for at := range len(all) + 1 {
		for n := range len(all) - at + 1 {
			got, err := x.Shown(at, n)
			if !slices.Equal(got, all[at:at+n]) || err != nil {
				t.Fatalf("%s: Shown(%d, %d) = %v, %v, want %v", name, at, n, got, err, all[at:at+n])
			}
		}
		for _, n := range far(len(all) - at) {
			checkNotShown(t, name, x, at, n)
		}
	}
	for _, at := range far(len(all)) {
		for _, n := range append(far(len(all)), 0, 1, len(all)) {
			checkNotShown(t, name, x, at, n)
		}
	}
}

func checkNotShown(t *testing.T, name string, x List, at, n int) {
	t.Helper()
	got, err := x.Shown(at, n)
	checkCode(t, name, err, api.ErrRange)
	if len(got) != 0 {
		t.Fatalf("%s: Shown(%d, %d) = %v beside an error", name, at, n, got)
	}
}

// check asks of a list all that P9.1 and P9.2 say of calls that make no other one.
func check(t *testing.T, name string, x List, w words) {
	t.Helper()
	l := w.entries()
	checkIndex(t, name, x, l)
	checkItems(t, name, x, w.items)
	checkBetween(t, name, x, l)
	checkShown(t, name, x, l)
}

// checkNone asks what is told beside an error: the zero List, which has none of w's items, and the Code itself.
func checkNone(t *testing.T, name string, x List, err error, want api.Code, w words) {
	t.Helper()
	checkCode(t, name, err, want)
	check(t, name, x, words{})
	for _, i := range w.items {
		if _, has := x.Item(i.Id); has {
			t.Fatalf("%s: an item beside an error", name)
		}
	}
}

// both are a list and its words.
type both struct {
	list  List
	words words
}

func (b both) add(t *testing.T, i api.Item, gone bool) both {
	t.Helper()
	x, err := b.list.Add(i, gone)
	if err != nil {
		t.Fatalf("Add(%v, %v) to %v: %v", i, gone, b.words.items, err)
	}
	return both{x, b.words.add(i, gone)}
}

func (b both) del(t *testing.T, a api.Id) both {
	t.Helper()
	x, err := b.list.Delete(a)
	if err != nil {
		t.Fatalf("Delete(%v) of %v: %v", a, b.words.items, err)
	}
	return both{x, b.words.del(a)}
}

func (b both) check(t *testing.T, name string) {
	t.Helper()
	check(t, name, b.list, b.words)
}

// refuses asks that no such item is added, and that the list is as it was.
func (b both) refuses(t *testing.T, name string, i api.Item) {
	t.Helper()
	for _, gone := range []bool{false, true} {
		x, err := b.list.Add(i, gone)
		checkNone(t, name, x, err, api.ErrArg, b.words)
	}
	b.check(t, name+": handed in")
}

// typed has a text's characters, each one behind the one ahead of it, of client 1.
func typed(t *testing.T, text string) both {
	t.Helper()
	var b both
	var left api.Id
	for _, ch := range text {
		a := id(1, uint32(len(b.words.items)))
		b = b.add(t, item(a, left, api.Id{}, ch), false)
		left = a
	}
	return b
}

// P9.1, P9.2, R3, the document's example: the zero List has no items, and is as good as any other one.
func TestZeroList(t *testing.T) {
	var b both
	b.check(t, "the zero List")
	for _, a := range absent() {
		x, err := b.list.Delete(a)
		checkNone(t, "Delete of the zero List", x, err, api.ErrArg, words{})
	}
	for _, a := range []api.Id{id(1, 0), id(1, last), id(last, 0), id(7, 7)} {
		b.add(t, item(a, api.Id{}, api.Id{}, 'a'), false).check(t, "one item")
		b.add(t, item(a, api.Id{}, api.Id{}, 'a'), true).check(t, "one item, deleted")
		b.refuses(t, "Left nowhere", item(id(3, 3), a, api.Id{}, 'a'))
		b.refuses(t, "Right nowhere", item(id(3, 3), api.Id{}, a, 'a'))
		b.refuses(t, "Left that it is", item(a, a, api.Id{}, 'a'))
		b.refuses(t, "Right that it is", item(a, api.Id{}, a, 'a'))
	}
	b.refuses(t, "the zero item", api.Item{})
	b.check(t, "the zero List at the end")
}

// P9.1: the order is layer 8's: what hangs on one thing, by rising Ids, each with all below it, on both sides.
func TestOrder(t *testing.T) {
	none, a, b, c, d, e := api.Id{}, id(1, 0), id(1, 1), id(3, 0), id(2, 0), id(2, 1)
	for _, x := range []struct {
		name string
		l    []api.Item
		want string
	}{
		{"one behind the other", []api.Item{item(a, none, none, 'a'), item(b, a, none, 'b'), item(c, b, none, 'c')}, "abc"},
		{"one ahead of the other", []api.Item{item(a, none, none, 'a'), item(b, none, a, 'b'), item(c, none, b, 'c')}, "cba"},
		{"all on the root, falling", []api.Item{item(c, none, none, 'c'), item(d, none, none, 'd'), item(a, none, none, 'a')}, "adc"},
		{"all behind one, falling", []api.Item{item(a, none, none, 'a'), item(c, a, none, 'c'), item(d, a, none, 'd'), item(b, a, none, 'b')}, "abdc"},
		{"all ahead of one, falling", []api.Item{item(a, none, none, 'a'), item(c, none, a, 'c'), item(d, none, a, 'd'), item(b, none, a, 'b')}, "bdca"},
		{"layer 8's example", []api.Item{item(a, none, none, 'a'), item(b, a, none, 'b'), item(c, a, b, 'c')}, "acb"},
		{"two between two", []api.Item{item(a, none, none, 'a'), item(b, a, none, 'b'), item(c, a, b, 'c'), item(d, a, b, 'd'), item(e, d, b, 'e')}, "adecb"},
		{"behind one that much is below", []api.Item{item(a, none, none, 'a'), item(c, a, none, 'c'), item(b, a, none, 'b'), item(d, b, none, 'd'), item(e, d, none, 'e')}, "abdec"},
		{"ahead of one that much is below", []api.Item{item(a, none, none, 'a'), item(c, none, a, 'c'), item(d, none, c, 'd'), item(b, none, a, 'b')}, "bdca"},
		{"Right isn't below Left", []api.Item{item(a, none, none, 'a'), item(b, none, none, 'b'), item(c, b, a, 'c')}, "abc"},
		{"Right is Left", []api.Item{item(a, none, none, 'a'), item(b, a, none, 'b'), item(c, a, a, 'c')}, "abc"},
		{"Left is below Right", []api.Item{item(a, none, none, 'a'), item(b, a, none, 'b'), item(c, b, a, 'c')}, "abc"},
		{"Right is far below Left", []api.Item{item(a, none, none, 'a'), item(b, a, none, 'b'), item(c, b, none, 'c'), item(d, a, c, 'd')}, "abdc"},
	} {
		var list both
		for _, i := range x.l {
			list = list.add(t, i, false)
		}
		list.check(t, x.name)
		if got := list.list.Text(); got != x.want {
			t.Errorf("%s: Text() = %q, want %q", x.name, got, x.want)
		}
	}
}

// P9.1 and R3: an item of Client 0 is refused, whatever its Clock is, and whatever else it is.
func TestAddOfNothings(t *testing.T) {
	b := typed(t, "ab")
	for _, clock := range []uint32{0, 1, 2, last} {
		b.refuses(t, "Client 0", item(id(0, clock), api.Id{}, api.Id{}, 'c'))
		b.refuses(t, "Client 0, between two", item(id(0, clock), id(1, 0), id(1, 1), 'c'))
		b.refuses(t, "Client 0, behind itself", item(id(0, clock), id(0, clock), id(0, clock), 'c'))
	}
}

// P9.1 and R3: an Id that the list has is refused, also where that one is deleted, or the item is another one in its place.
func TestAddOfOneThatIsThere(t *testing.T) {
	b := typed(t, "abc").del(t, id(1, 1))
	for _, i := range b.words.items {
		b.refuses(t, "an item that it has", i)
		b.refuses(t, "an Id that it has, another character", item(i.Id, i.Left, i.Right, 'x'))
		b.refuses(t, "an Id that it has, on the root", item(i.Id, api.Id{}, api.Id{}, i.Ch))
		b.refuses(t, "an Id that it has, between two", item(i.Id, id(1, 0), id(1, 2), i.Ch))
	}
	for _, a := range []api.Id{id(1, 3), id(2, 0), id(2, 1), id(last, 1), id(1, last)} {
		b.add(t, item(a, id(1, 0), id(1, 1), 'x'), false).check(t, "an Id that it hasn't")
	}
}

// P9.1 and R3: Left and Right are each nothing's, or another item's, deleted or not.
func TestLeftAndRight(t *testing.T) {
	b := typed(t, "abc").del(t, id(1, 1))
	fresh := id(2, 7)
	good := []api.Id{{}, id(0, 1), id(0, last), id(1, 0), id(1, 1), id(1, 2)}
	bad := []api.Id{fresh, id(2, 0), id(2, 6), id(2, 8), id(1, 3), id(1, last), id(3, 0), id(last, 0), id(last, last)}
	for _, left := range good {
		for _, right := range good {
			for _, gone := range []bool{false, true} {
				b.add(t, item(fresh, left, right, 'x'), gone).check(t, "Left and Right that may be")
			}
		}
		for _, other := range bad {
			b.refuses(t, "Right nowhere", item(fresh, left, other, 'x'))
			b.refuses(t, "Left nowhere", item(fresh, other, left, 'x'))
		}
	}
	for _, left := range bad {
		for _, right := range bad {
			b.refuses(t, "both nowhere", item(fresh, left, right, 'x'))
		}
	}
}

// P9.1: characters of one byte to four, and those at the edges of what UTF-8 has; all others are refused.
func TestCharacters(t *testing.T) {
	b := typed(t, "aé€😀")
	if got := b.list.Text(); got != "aé€😀" {
		t.Errorf("Text() = %q", got)
	}
	for _, ch := range []rune{0, 1, '\n', 0x7f, 0x80, 0x7ff, 0x800, 0xd7ff, 0xe000, 0xfffd, 0xfffe, 0xffff, 0x10000, 0x10ffff} {
		b = b.add(t, item(id(2, uint32(ch)), id(1, 1), id(1, 2), ch), false)
		b.check(t, "a character")
	}
	for _, ch := range []rune{0xd800, 0xd801, 0xdbff, 0xdc00, 0xdfff, 0x110000, 0x110001, 0x7fffffff, -1, -2, math.MinInt32} {
		b.refuses(t, "no character", item(id(3, 0), id(1, 1), id(1, 2), ch))
		b.refuses(t, "no character, on the root", item(id(3, 0), api.Id{}, api.Id{}, ch))
	}
}

// P9.1: an item that comes deleted is in the index, and Item tells it, but not Text; another one may hang on it.
func TestAddOfOneThatIsDeleted(t *testing.T) {
	for at := range 3 {
		var b both
		var left api.Id
		for k, ch := range "abc" {
			a := id(1, uint32(k))
			b = b.add(t, item(a, left, api.Id{}, ch), k == at)
			left = a
		}
		b.check(t, "one came deleted")
		if got, want := b.list.Text(), []string{"bc", "ac", "ab"}[at]; got != want {
			t.Errorf("Text() = %q, want %q", got, want)
		}
		b.refuses(t, "an Id that came deleted", item(id(1, uint32(at)), api.Id{}, api.Id{}, 'x'))
		b.add(t, item(id(2, 0), id(1, uint32(at)), api.Id{}, 'x'), false).check(t, "one behind it")
		b.add(t, item(id(2, 0), api.Id{}, id(1, uint32(at)), 'x'), false).check(t, "one ahead of it")
		b.del(t, id(1, uint32(at))).check(t, "deleted again")
	}
}

// P9.1 and R3: Delete of one that is there, one that is deleted already, nothing's, and ones that aren't there.
func TestDelete(t *testing.T) {
	b := typed(t, "abcd")
	for _, i := range b.words.items {
		one := b.del(t, i.Id)
		one.check(t, "one deleted")
		again := one.del(t, i.Id)
		again.check(t, "deleted already")
		for _, k := range b.words.items {
			again.del(t, k.Id).check(t, "two deleted")
		}
		b.check(t, "handed in to Delete")
	}
	for _, a := range append(absent(), id(1, 4), id(2, 0), id(0, 0)) {
		x, err := b.list.Delete(a)
		checkNone(t, "Delete of one that it hasn't", x, err, api.ErrArg, b.words)
	}
	b.check(t, "the list at the end")
}

// P9.1: Item tells items as they came, also deleted ones, with a Left and a Right that are nothing's but aren't zero.
func TestItem(t *testing.T) {
	var b both
	b = b.add(t, item(id(5, 5), id(0, 7), id(0, last), 'a'), false)
	b = b.add(t, item(id(5, last), id(5, 5), id(0, 1), 'b'), true)
	b = b.add(t, item(id(last, 5), id(0, 2), id(5, 5), 'c'), false)
	b.check(t, "Lefts and Rights that are nothing's")
	for _, a := range []api.Id{id(5, 4), id(5, 6), id(4, 5), id(6, 5), id(0, 5), id(5, 0), id(last, last), id(0, 7)} {
		if got, has := b.list.Item(a); got != (api.Item{}) || has {
			t.Errorf("Item(%v) = %v, %v", a, got, has)
		}
	}
}

// P9.2: deleted items at each of five places: beside a place on either side, at the ends, and all of them.
func TestPlacesBesideDeletedItems(t *testing.T) {
	all := typed(t, "abcde")
	for gone := range 1 << 5 {
		b := all
		for k := range 5 {
			if gone>>k&1 == 1 {
				b = b.del(t, id(1, uint32(k)))
			}
		}
		b.check(t, "some deleted")
	}
}

// P9.2: the same, told one by one.
func TestBetweenAndShown(t *testing.T) {
	b := typed(t, "abcde").del(t, id(1, 0)).del(t, id(1, 2)).del(t, id(1, 4))
	for k, want := range [][2]api.Id{{{}, id(1, 0)}, {id(1, 1), id(1, 2)}, {id(1, 3), id(1, 4)}} {
		left, right, err := b.list.Between(k)
		if left != want[0] || right != want[1] || err != nil {
			t.Errorf("Between(%d) = %v, %v, %v, want %v", k, left, right, err, want)
		}
	}
	if got, err := b.list.Shown(0, 2); !slices.Equal(got, []api.Id{id(1, 1), id(1, 3)}) || err != nil {
		t.Errorf("Shown(0, 2) = %v, %v", got, err)
	}
	b = b.del(t, id(1, 1)).del(t, id(1, 3))
	left, right, err := b.list.Between(0)
	if left != (api.Id{}) || right != id(1, 0) || err != nil {
		t.Errorf("of all deleted, Between(0) = %v, %v, %v", left, right, err)
	}
	if got, err := b.list.Shown(0, 0); len(got) != 0 || err != nil {
		t.Errorf("of all deleted, Shown(0, 0) = %v, %v", got, err)
	}
	checkNotShown(t, "all deleted", b.list, 0, 1)
}

// mixer tells numbers that look mixed, the same ones each time.
type mixer uint32

func (m *mixer) below(n int) int {
	*m = *m*1664525 + 1013904223
	return int(*m>>8) % n
}

// mixedIds has n Ids, no two the same, in mixed order: neither Clients alone nor Clocks alone, nor numbers with a sign, tell which is less.
func mixedIds(m *mixer, n int) []api.Id {
	var l []api.Id
	for i := range n {
		l = append(l, id([]uint32{1, 2, math.MaxInt32 + 1, last}[i%4], []uint32{0, 100, last - 1000}[i%3]+uint32(i)))
	}
	for i := range l {
		k := m.below(i + 1)
		l[i], l[k] = l[k], l[i]
	}
	return l
}

// mixedItems has n items, each put between two of the reach ones that are nearest ahead of it, or of nothing.
func mixedItems(m *mixer, n, reach int) []api.Item {
	var l []api.Item
	other := func() api.Id {
		if len(l) == 0 || m.below(6) == 0 {
			return id(0, uint32(m.below(3)))
		}
		return l[len(l)-1-m.below(min(len(l), reach))].Id
	}
	for k, a := range mixedIds(m, n) {
		l = append(l, item(a, other(), other(), rune('a'+k%26)))
	}
	return l
}

// eachSmall hands in all lists of up to n items that have the first of these Ids, in whatever order, none deleted.
func eachSmall(t *testing.T, n int, call func(b both)) {
	all := []api.Id{id(1, 0), id(1, 1), id(2, 0), id(3, 0)}[:n]
	var more func(b both)
	more = func(b both) {
		call(b)
		others := []api.Id{{}}
		for _, x := range b.words.items {
			others = append(others, x.Id)
		}
		for k, a := range all {
			if slices.Contains(others, a) {
				continue
			}
			for _, left := range others {
				for _, right := range others {
					more(b.add(t, item(a, left, right, rune('a'+k)), false))
				}
			}
		}
	}
	more(both{})
}

// P9.1: all lists of up to four items have layer 8's order.
func TestAllSmallLists(t *testing.T) {
	count := 0
	eachSmall(t, 4, func(b both) {
		count++
		checkIndex(t, "small", b.list, b.words.entries())
		checkShape(t, b.list)
	})
	// Each item has any of those ahead of it, or nothing, on each side.
	if want := 1 + 4 + 12*4 + 24*4*9 + 24*4*9*16; count != want {
		t.Errorf("%d lists, want %d", count, want)
	}
}

// P9.1 and P9.2: all lists of up to three items, with each of them deleted or not.
func TestAllSmallListsWithDeletedItems(t *testing.T) {
	eachSmall(t, 3, func(b both) {
		for gone := range 1 << len(b.words.items) {
			x := b
			for k, i := range b.words.items {
				if gone>>k&1 == 1 {
					x = x.del(t, i.Id)
				}
			}
			x.check(t, "small, some deleted")
		}
	})
}

// P9.1, P9.2 and P9.3: mixed items, some of which come deleted, or are deleted later; each list stays as it was.
func TestMixedLists(t *testing.T) {
	m := mixer(7)
	for _, reach := range []int{1, 2, 3, 5, 40} {
		for range 12 {
			var b both
			var old []both
			for _, i := range mixedItems(&m, m.below(40), reach) {
				b = b.add(t, i, m.below(4) == 0)
				old = append(old, b)
				if m.below(3) == 0 {
					b = b.del(t, b.words.items[m.below(len(b.words.items))].Id)
					old = append(old, b)
				}
			}
			b.check(t, "mixed")
			checkShape(t, b.list)
			for _, x := range old {
				checkIndex(t, "earlier", x.list, x.words.entries())
				checkItems(t, "earlier", x.list, x.words.items)
			}
		}
	}
}

// P9.3: of one list two others are made, each in its own way; neither is in the other, or in the first one.
func TestListsFromOneList(t *testing.T) {
	for _, n := range []int{0, 1, 2, 15, 16, 17, 33, 100} {
		m := mixer(n)
		var b both
		for _, i := range mixedItems(&m, n, 3) {
			b = b.add(t, i, m.below(5) == 0)
		}
		before := b.words.clone()
		one := b.add(t, item(id(7, 0), api.Id{}, api.Id{}, 'x'), false)
		other := b.add(t, item(id(7, 1), api.Id{}, api.Id{}, 'y'), true)
		same := b.add(t, item(id(7, 0), api.Id{}, api.Id{}, 'z'), true)
		one.add(t, item(id(7, 1), id(7, 0), api.Id{}, 'q'), false).check(t, "two more")
		for _, i := range before.items {
			b.del(t, i.Id)
			one.del(t, i.Id).check(t, "one more, one deleted")
		}
		for _, x := range []both{one, other, same, b} {
			x.check(t, "lists from one list")
		}
		if _, has := b.list.Item(id(7, 0)); has {
			t.Error("the list that was handed in has another item")
		}
		check(t, "the list that was handed in", b.list, before)
	}
}

// deed is an item that is added, or one that is deleted.
type deed struct {
	add  bool
	item api.Item
	gone bool
}

// done does deeds.
func done(t *testing.T, l []deed) List {
	t.Helper()
	var x List
	for _, d := range l {
		var err error
		if d.add {
			x, err = x.Add(d.item, d.gone)
		} else {
			x, err = x.Delete(d.item.Id)
		}
		if err != nil {
			t.Fatal(d, err)
		}
	}
	return x
}

// deedsOf are deeds by which these items come, those of them deleted that gone has, in whatever order and way pick tells: some come deleted, others are deleted later, some of them twice.
func deedsOf(items []api.Item, gone map[api.Id]bool, pick func(n int) int) []deed {
	var l, later []deed
	come := map[api.Id]bool{}
	has := func(a api.Id) bool { return a.Client == 0 || come[a] }
	waiting := slices.Clone(items)
	for len(waiting)+len(later) > 0 {
		var ready []int
		for k, i := range waiting {
			if has(i.Left) && has(i.Right) {
				ready = append(ready, k)
			}
		}
		at := pick(len(ready) + len(later))
		if at >= len(ready) {
			l = append(l, later[at-len(ready)])
			later = slices.Delete(later, at-len(ready), at-len(ready)+1)
			continue
		}
		i := waiting[ready[at]]
		waiting = slices.Delete(waiting, ready[at], ready[at]+1)
		come[i.Id] = true
		way := pick(3)
		l = append(l, deed{true, i, gone[i.Id] && way != 0})
		if gone[i.Id] && way != 1 {
			later = append(later, deed{item: i})
		}
	}
	return l
}

// P9.4: in whatever order items are added and deleted, the index is the same.
func TestIndexHangsOnItemsAlone(t *testing.T) {
	m := mixer(11)
	for _, reach := range []int{1, 2, 3, 5, 40} {
		for range 25 {
			items := mixedItems(&m, m.below(30), reach)
			w := words{items: items}
			for _, i := range items {
				if m.below(3) == 0 {
					w = w.del(i.Id)
				}
			}
			want := w.entries()
			for _, pick := range []func(n int) int{
				func(n int) int { return 0 },
				func(n int) int { return n - 1 },
				m.below, m.below, m.below, m.below,
			} {
				check(t, "another order", done(t, deedsOf(items, w.gone, pick)), w)
			}
			checkIndex(t, "Adds, then Deletes", done(t, addsThenDeletes(w)), want)
		}
	}
}

func addsThenDeletes(w words) []deed {
	var l []deed
	for _, i := range w.items {
		l = append(l, deed{true, i, false})
	}
	for _, i := range slices.Backward(w.items) {
		if w.gone[i.Id] {
			l = append(l, deed{item: i})
		}
	}
	return l
}

// P9.4: three between the same two come in all six orders, each with one behind it.
func TestAllOrdersOfThree(t *testing.T) {
	ends := []api.Item{item(id(1, 0), api.Id{}, api.Id{}, '('), item(id(1, 1), id(1, 0), api.Id{}, ')')}
	for _, clients := range [][]uint32{{2, 3, 4}, {2, 4, 3}, {3, 2, 4}, {3, 4, 2}, {4, 2, 3}, {4, 3, 2}} {
		var b both
		for _, i := range ends {
			b = b.add(t, i, false)
		}
		for _, client := range clients {
			b = b.add(t, item(id(client, 0), id(1, 0), id(1, 1), rune('a'+client)), false)
			b = b.add(t, item(id(client, 1), id(client, 0), id(1, 1), rune('A'+client)), false)
		}
		b.check(t, "three between two")
		if got := b.list.Text(); got != "(cCdDeE)" {
			t.Errorf("%v: Text() = %q", clients, got)
		}
	}
}

// P9.1 and P9.2: what is put where Between tells comes there in Text, also beside deleted ones.
func TestPutWhereBetweenTells(t *testing.T) {
	m := mixer(23)
	for round := range 20 {
		var x List
		var text []rune
		for n, a := range mixedIds(&m, 150) {
			at := m.below(len(text) + 1)
			if round%2 == 0 && n > 0 && m.below(10) > 0 {
				at = min(len(text), n/2)
			}
			left, right, err := x.Between(at)
			if err != nil {
				t.Fatal(err)
			}
			ch := rune('a' + n%26)
			if x, err = x.Add(item(a, left, right, ch), false); err != nil {
				t.Fatal(err)
			}
			text = slices.Insert(text, at, ch)
			if m.below(3) == 0 {
				at := m.below(len(text))
				l, err := x.Shown(at, 1)
				if err != nil || len(l) != 1 {
					t.Fatal(l, err)
				}
				if x, err = x.Delete(l[0]); err != nil {
					t.Fatal(err)
				}
				text = slices.Delete(text, at, at+1)
			}
			if got := x.Text(); got != string(text) {
				t.Fatalf("round %d: Text() = %q, want %q", round, got, string(text))
			}
		}
	}
}

// P9.3 and R2: what Shown and the index tell is new memory.
func TestMemory(t *testing.T) {
	b := typed(t, "abcdefghijklmnopqrstuvwxyz").del(t, id(1, 3))
	told, err := b.list.Shown(2, 10)
	if err != nil {
		t.Fatal(err)
	}
	again, _ := b.list.Shown(2, 10)
	for i := range told[:cap(told)] {
		told[:cap(told)][i] = id(7, 7)
	}
	if want := idsOf(b.words.entries())[2:12]; !slices.Equal(again, want) {
		t.Errorf("Shown = %v, want %v", again, want)
	}
	all := b.list.Index().All()
	for i := range all[:cap(all)] {
		all[:cap(all)][i] = api.Entry{Id: id(7, 7), Ch: 'x', Gone: true}
	}
	b.check(t, "what was told is spoilt")
}

// P9.3: an index that was told stays, and what is made of it isn't in the list.
func TestIndexStays(t *testing.T) {
	b := typed(t, "abc")
	order, before := b.list.Index(), b.words.entries()
	put, err := order.Put(0, api.Entry{Id: id(9, 0), Ch: 'x'})
	if err != nil || put.Len() != 4 {
		t.Fatal(err)
	}
	if _, err := order.Hide(id(1, 0)); err != nil {
		t.Fatal(err)
	}
	b.check(t, "others made of its index")
	b.add(t, item(id(9, 0), id(1, 0), id(1, 1), 'y'), false).del(t, id(1, 2))
	if got := order.All(); !slices.Equal(got, before) {
		t.Errorf("the index that was told is %v, was %v", got, before)
	}
}

// checkShape asks what no promise says, but how soon calls end hangs on it: sides of like heights, and ways up of few leaps.
func checkShape(t *testing.T, x List) {
	t.Helper()
	count := checkHeld(t, x.items)
	if count != x.Index().Len() {
		t.Fatalf("%d items, %d entries", count, x.Index().Len())
	}
}

func checkHeld(t *testing.T, h *held) int {
	t.Helper()
	if h == nil {
		return 0
	}
	count := checkHeld(t, h.less) + 1 + checkHeld(t, h.more)
	if d := h.less.high() - h.more.high(); d < -1 || d > 1 || h.height != max(h.less.high(), h.more.high())+1 {
		t.Fatalf("sides of heights %d and %d, in one of %d", h.less.high(), h.more.high(), h.height)
	}
	leaps := 0
	for n := h.node; n != nil; leaps++ {
		n = n.far
	}
	// A way of 2^k has at most some 2k leaps.
	for deep := h.node.depth; deep > 0; deep /= 2 {
		leaps -= 2
	}
	if leaps > 0 {
		t.Fatalf("%d leaps too many, from depth %d", leaps, h.node.depth)
	}
	return count
}

// nth is the Id of a long list's item of a number; of many clients by turns, or of one.
func nth(n, clients int) api.Id { return id(uint32(1+n%clients), uint32(n/clients)) }

// longWays are ways to put a list's items one by one, each between two of the ones ahead of it.
func longWays() map[string]func(k int, nth func(k int) api.Id) (left, right api.Id) {
	return map[string]func(k int, nth func(k int) api.Id) (left, right api.Id){
		"each behind the last one": func(k int, nth func(k int) api.Id) (left, right api.Id) {
			return nth(k - 1), api.Id{}
		},
		"each ahead of the one put last": func(k int, nth func(k int) api.Id) (left, right api.Id) {
			return api.Id{}, nth(k - 1)
		},
		"each on the root": func(k int, nth func(k int) api.Id) (left, right api.Id) {
			return api.Id{}, api.Id{}
		},
		"each between the first one and the one put last": func(k int, nth func(k int) api.Id) (left, right api.Id) {
			return nth(0), nth(k - 1)
		},
		"each between the two put last": func(k int, nth func(k int) api.Id) (left, right api.Id) {
			return nth(k - 1 - k%2), nth(k - 2 + k%2)
		},
		"each behind the first one": func(k int, nth func(k int) api.Id) (left, right api.Id) {
			return nth(0), api.Id{}
		},
		"each behind one in the midst": func(k int, nth func(k int) api.Id) (left, right api.Id) {
			return nth(k / 2), nth(k / 3)
		},
	}
}

// P1, P9.1 and P9.4: lists so long that one would wait for a call that goes through all items many times.
func TestLongLists(t *testing.T) {
	const n = 10000
	for name, way := range longWays() {
		for _, clients := range []int{1, 3} {
			numbered := func(k int) api.Id { return nth(k, clients) }
			var x List
			var w words
			for k := range n {
				i := item(numbered(k), api.Id{}, api.Id{}, rune('a'+k%26))
				if k > 1 {
					i.Left, i.Right = way(k, numbered)
				} else if k == 1 {
					i.Left = numbered(0)
				}
				var err error
				if x, err = x.Add(i, k%5 == 0); err != nil {
					t.Fatal(name, k, err)
				}
				w.items = append(w.items, i)
			}
			w.gone = map[api.Id]bool{}
			for k := 0; k < n; k += 5 {
				w.gone[numbered(k)] = true
			}
			l := w.entries()
			checkIndex(t, name, x, l)
			checkShape(t, x)
			if got, err := x.Shown(0, len(idsOf(l))); !slices.Equal(got, idsOf(l)) || err != nil {
				t.Errorf("%s: Shown of all: %v", name, err)
			}
		}
	}
}
