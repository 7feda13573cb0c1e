package index

import (
	"errors"
	"math"
	"slices"
	"testing"

	"surcingle/api"
)

const last = math.MaxUint32

func id(client, clock uint32) api.Id { return api.Id{Client: client, Clock: clock} }

func entry(client, clock uint32, ch rune, gone bool) api.Entry {
	return api.Entry{Id: id(client, clock), Ch: ch, Gone: gone}
}

// numbered is the n-th of entries with Ids of three clients, that neither rise nor fall; every third one is Gone.
func numbered(n int) api.Entry {
	return entry(uint32(n%3+1), uint32(n*7%1000), rune('a'+n%26), n%3 == 0)
}

// numberedUpTo has n entries, n at most 1000.
func numberedUpTo(n int) []api.Entry {
	l := make([]api.Entry, n)
	for i := range l {
		l[i] = numbered(i)
	}
	return l
}

// sizes are counts around one chunk, two, three, and many.
func sizes() []int {
	return []int{0, 1, 2, 3, 7, 8, 9, 15, 16, 17, 18, 31, 32, 33, 34, 47, 48, 49, 63, 64, 65, 100, 255, 256, 257, 1000}
}

// edgeIds are Ids that a comparison, or a number made of one, would mistake for another one.
func edgeIds() []api.Id {
	numbers := []uint32{0, 1, 2, math.MaxInt32, math.MaxInt32 + 1, last - 1, last}
	var l []api.Id
	for _, clock := range numbers {
		for _, client := range numbers {
			l = append(l, id(client, clock))
		}
	}
	return l
}

// extra and nothings are entries of Ids that none of the numbered ones has.
func extra() api.Entry { return entry(4, 0, 'x', false) }

func nothings() api.Entry { return entry(0, 7, 'y', true) }

// absent are Ids that none of all these has.
func absent() []api.Id {
	return []api.Id{{}, id(0, 1), id(1, 1000), id(1, last), id(2, 0), id(2, 1), id(4, 7), id(7, 0), id(last, 0), id(last, last)}
}

// far are places that no index has.
func far(n int) []int {
	return []int{-1, -2, math.MinInt32, math.MinInt, n + 1, n + 2, n + api.Chunk, math.MaxInt32, math.MaxUint32, math.MaxInt - 1, math.MaxInt}
}

// putByWords and hideByWords tell new lists.
func putByWords(l []api.Entry, at int, e api.Entry) []api.Entry {
	return slices.Insert(slices.Clone(l), at, e)
}

func hideByWords(l []api.Entry, at int) []api.Entry {
	told := slices.Clone(l)
	told[at].Gone = true
	return told
}

// shownByWords are the places of what isn't Gone.
func shownByWords(l []api.Entry) []int {
	var places []int
	for i, e := range l {
		if !e.Gone {
			places = append(places, i)
		}
	}
	return places
}

// checkSame asks that an index has these entries, by All, Len and Shown alone.
func checkSame(t *testing.T, name string, x Index, l []api.Entry) {
	t.Helper()
	if got := x.All(); !slices.Equal(got, l) {
		t.Fatalf("%s: All() = %v, want %v", name, got, l)
	}
	if got := x.Len(); got != len(l) {
		t.Fatalf("%s: Len() = %d, want %d", name, got, len(l))
	}
	if got, want := x.Shown(), len(shownByWords(l)); got != want {
		t.Fatalf("%s: Shown() = %d, want %d", name, got, want)
	}
}

// checkNone asks what is told beside an error: the zero Index, and the Code itself.
func checkNone(t *testing.T, name string, x Index, err error, want api.Code) {
	t.Helper()
	checkSame(t, name, x, nil)
	checkCode(t, name, err, want)
}

func checkCode(t *testing.T, name string, err error, want api.Code) {
	t.Helper()
	if err != want {
		t.Fatalf("%s: error %v, want %v", name, err, want)
	}
	var fault *api.Fault
	if errors.As(err, &fault) {
		t.Fatalf("%s: the error is wrapped", name)
	}
}

// checkPlaces asks Entry and At at all places, and beyond them.
func checkPlaces(t *testing.T, name string, x Index, l []api.Entry) {
	t.Helper()
	for i, e := range l {
		if got, err := x.Entry(i); got != e || err != nil {
			t.Fatalf("%s: Entry(%d) = %v, %v, want %v", name, i, got, err, e)
		}
	}
	for _, at := range append(far(len(l)), len(l)) {
		got, err := x.Entry(at)
		checkCode(t, name, err, api.ErrRange)
		if got != (api.Entry{}) {
			t.Fatalf("%s: Entry(%d) = %v beside an error", name, at, got)
		}
	}
	places := shownByWords(l)
	for k, want := range places {
		if got, err := x.At(k); got != want || err != nil {
			t.Fatalf("%s: At(%d) = %d, %v, want %d", name, k, got, err, want)
		}
	}
	for _, k := range append(far(len(places)), len(places)) {
		got, err := x.At(k)
		checkCode(t, name, err, api.ErrRange)
		if got != 0 {
			t.Fatalf("%s: At(%d) = %d beside an error", name, k, got)
		}
	}
}

// checkFind asks Find of each Id that there is, and of those that there aren't.
func checkFind(t *testing.T, name string, x Index, l []api.Entry, without []api.Id) {
	t.Helper()
	for i, e := range l {
		if got, has := x.Find(e.Id); got != i || !has {
			t.Fatalf("%s: Find(%v) = %d, %v, want %d", name, e.Id, got, has, i)
		}
	}
	for _, a := range without {
		if got, has := x.Find(a); got != 0 || has {
			t.Fatalf("%s: Find(%v) = %d, %v, want 0, false", name, a, got, has)
		}
	}
}

// checkShape asks what no promise says, but how soon calls end hangs on it: small chunks, and parts of like heights; it tells the height.
func checkShape(t *testing.T, name string, p *part) int {
	t.Helper()
	if p.isChunk() {
		if len(p.chunk) > api.Chunk {
			t.Fatalf("%s: a chunk of %d", name, len(p.chunk))
		}
		return 0
	}
	left, right := checkShape(t, name, p.left), checkShape(t, name, p.right)
	if left-right < -1 || left-right > 1 {
		t.Fatalf("%s: parts of heights %d and %d", name, left, right)
	}
	return max(left, right) + 1
}

// check asks of an index all that P7.1 says of calls that make no other one.
func check(t *testing.T, name string, x Index, l []api.Entry, without []api.Id) {
	t.Helper()
	checkSame(t, name, x, l)
	checkPlaces(t, name, x, l)
	checkFind(t, name, x, l, without)
	checkShape(t, name, &x.top)
}

// kept are indexes, and what entries each one had when it was told.
type kept struct {
	indexes []Index
	entries [][]api.Entry
}

func (k *kept) add(x Index, l []api.Entry) {
	k.indexes, k.entries = append(k.indexes, x), append(k.entries, slices.Clone(l))
}

// check is P7.3.
func (k *kept) check(t *testing.T, name string) {
	t.Helper()
	for i, x := range k.indexes {
		checkSame(t, name+", earlier", x, k.entries[i])
	}
}

// P7.1, R3, the document's example: the zero Index has no entries, and is as good as any other one.
func TestZeroIndex(t *testing.T) {
	var x Index
	check(t, "the zero Index", x, nil, absent())
	check(t, "Of(nil)", Of(nil), nil, absent())
	check(t, "Of of no entries", Of([]api.Entry{}), nil, absent())
	check(t, "Of of an empty list with room", Of(numberedUpTo(20)[:0]), nil, append(absent(), numbered(0).Id, extra().Id))
	y, err := x.Put(0, numbered(5))
	if err != nil {
		t.Fatal(err)
	}
	check(t, "one entry", y, []api.Entry{numbered(5)}, absent())
	for _, at := range append(far(0), 1) {
		y, err := x.Put(at, numbered(5))
		checkNone(t, "Put in the zero Index", y, err, api.ErrRange)
	}
	for _, a := range absent() {
		y, err := x.Hide(a)
		checkNone(t, "Hide in the zero Index", y, err, api.ErrArg)
	}
	check(t, "the zero Index at the end", x, nil, absent())
}

// P7.1: Of, with none Gone, all, every third one, one side of them, and the first or the last one alone.
func TestOf(t *testing.T) {
	for _, n := range sizes() {
		for name, gone := range map[string]func(i int) bool{
			"none Gone":         func(i int) bool { return false },
			"all Gone":          func(i int) bool { return true },
			"some Gone":         func(i int) bool { return i%3 == 0 },
			"the first Gone":    func(i int) bool { return i == 0 },
			"the last Gone":     func(i int) bool { return i == n-1 },
			"all but the first": func(i int) bool { return i > 0 },
			"all but the last":  func(i int) bool { return i < n-1 },
			"one side Gone":     func(i int) bool { return i < n/2 },
			"other side Gone":   func(i int) bool { return i >= n/2 },
		} {
			l := numberedUpTo(n)
			for i := range l {
				l[i].Gone = gone(i)
			}
			check(t, name, Of(l), l, absent())
		}
	}
}

// P7.1: any Id, that of Client 0 too, is an entry's, in whatever order; one that is like it in a part isn't.
func TestAllIds(t *testing.T) {
	all := edgeIds()
	for n := range len(all) + 1 {
		var l []api.Entry
		var put Index
		for i, a := range all[:n] {
			l = append(l, api.Entry{Id: a, Ch: rune(i)})
			var err error
			if put, err = put.Put(i, l[i]); err != nil {
				t.Fatal(a, err)
			}
		}
		check(t, "edges of Ids", Of(l), l, all[n:])
		check(t, "edges of Ids, one by one", put, l, all[n:])
		slices.Reverse(l)
		check(t, "edges of Ids, from the end", Of(l), l, all[n:])
	}
}

// P7.1: an entry is told as it was handed in, whatever its character is.
func TestAllCharacters(t *testing.T) {
	var l []api.Entry
	var put Index
	for i, ch := range []rune{0, 'a', 'é', '€', '😀', '\n', 0xd800, 0xdfff, 0xfffd, 0x10ffff, 0x110000, -1, math.MinInt32, math.MaxInt32} {
		e := entry(1, uint32(i), ch, i%2 == 0)
		l = slices.Insert(l, 0, e)
		var err error
		if put, err = put.Put(0, e); err != nil {
			t.Fatal(ch, err)
		}
	}
	check(t, "characters", Of(l), l, absent())
	check(t, "characters, put", put, l, absent())
}

// P7.1 and P7.3: Put at 0, at each place in the midst, at Len; what was handed in stays.
func TestPutAtEachPlace(t *testing.T) {
	for _, n := range sizes() {
		if n > 257 {
			continue
		}
		l := numberedUpTo(n)
		x := Of(l)
		for at := range n + 1 {
			for _, e := range []api.Entry{extra(), nothings()} {
				y, err := x.Put(at, e)
				if err != nil {
					t.Fatalf("Put(%d, %v) of %d: %v", at, e, n, err)
				}
				check(t, "put", y, putByWords(l, at, e), absent())
				checkSame(t, "handed in to Put", x, l)
			}
		}
		check(t, "handed in to Put", x, l, absent())
	}
}

// P7.1 and R1: Put's errors: no such place, first; then an Id that it has, whatever else its entry is.
func TestErrorsOfPut(t *testing.T) {
	for _, n := range sizes() {
		l := numberedUpTo(n)
		x := Of(l)
		for _, at := range far(n) {
			y, err := x.Put(at, extra())
			checkNone(t, "Put at no place", y, err, api.ErrRange)
			if n > 0 {
				y, err = x.Put(at, numbered(n-1))
				checkNone(t, "Put at no place of an Id that it has", y, err, api.ErrRange)
			}
		}
		for i := range l {
			e := api.Entry{Id: l[i].Id, Ch: l[i].Ch + 1, Gone: !l[i].Gone}
			for _, at := range []int{0, i, i + 1, n / 2, n} {
				y, err := x.Put(at, l[i])
				checkNone(t, "Put of an entry that it has", y, err, api.ErrArg)
				y, err = x.Put(at, e)
				checkNone(t, "Put of an Id that it has", y, err, api.ErrArg)
			}
		}
		check(t, "handed in to what is refused", x, l, absent())
	}
}

// P7.1 and P7.3: Hide of each entry, also of one that is Gone; of that Id none is put, though it is Gone.
func TestHideOfEach(t *testing.T) {
	for _, n := range sizes() {
		if n > 257 {
			continue
		}
		l := numberedUpTo(n)
		x := Of(l)
		for i, e := range l {
			y, err := x.Hide(e.Id)
			want := hideByWords(l, i)
			if err != nil {
				t.Fatalf("Hide(%v) of %d: %v", e.Id, n, err)
			}
			check(t, "hidden", y, want, absent())
			again, err := y.Hide(e.Id)
			if err != nil {
				t.Fatalf("Hide(%v) of one that is Gone: %v", e.Id, err)
			}
			checkSame(t, "hidden again", again, want)
			none, err := y.Put(0, e)
			checkNone(t, "Put of one that is Gone", none, err, api.ErrArg)
			checkSame(t, "handed in to Hide", x, l)
		}
		for _, a := range absent() {
			y, err := x.Hide(a)
			checkNone(t, "Hide of one that it hasn't", y, err, api.ErrArg)
		}
		check(t, "handed in to Hide", x, l, absent())
	}
}

// P7.1: one by one all are hidden, from the front, from the end, and mixed; at the end all are Gone.
func TestHideOfAll(t *testing.T) {
	for _, n := range sizes() {
		for name, place := range map[string]func(i int) int{
			"from the front": func(i int) int { return i },
			"from the end":   func(i int) int { return n - 1 - i },
			"mixed":          func(i int) int { return (i*7919 + 5) % n },
		} {
			l := numberedUpTo(n)
			x := Of(l)
			for i := range n {
				at := place(i)
				y, err := x.Hide(l[at].Id)
				if err != nil {
					t.Fatal(name, n, at, err)
				}
				x, l[at].Gone = y, true
			}
			if x.Shown() != 0 || len(shownByWords(l)) != 0 {
				t.Fatalf("%s: Shown() = %d, want all of %d Gone", name, x.Shown(), n)
			}
			check(t, name, x, l, absent())
			y, err := x.Put(n/2, extra())
			if err != nil {
				t.Fatal(name, n, err)
			}
			check(t, name+", one put there", y, putByWords(l, n/2, extra()), absent())
		}
	}
}

// P7.1 and P7.3: indexes that grow one by one, at 0, at Len, in the midst, and mixed; each earlier one stays.
func TestPutOneByOne(t *testing.T) {
	for name, place := range map[string]func(n int) int{
		"at 0":               func(n int) int { return 0 },
		"at Len":             func(n int) int { return n },
		"in the midst":       func(n int) int { return n / 2 },
		"ahead of the last":  func(n int) int { return max(n-1, 0) },
		"behind the first":   func(n int) int { return min(n, 1) },
		"by turns":           func(n int) int { return n % 2 * n },
		"mixed":              func(n int) int { return n * 7919 % (n + 1) },
		"mixed another way":  func(n int) int { return n * n * 31 % (n + 1) },
		"around one place":   func(n int) int { return min(n, 300+n%3) },
		"first at Len, then": func(n int) int { return min(n, max(0, 700-n)) },
	} {
		var x Index
		var l []api.Entry
		var old kept
		for n := range 700 {
			old.add(x, l)
			at := place(n)
			y, err := x.Put(at, numbered(n))
			if err != nil {
				t.Fatal(name, n, err)
			}
			l = slices.Insert(l, at, numbered(n))
			x = y
			if n%50 == 0 || n < 40 {
				check(t, name, x, l, absent())
			} else {
				checkShape(t, name, &x.top)
			}
		}
		check(t, name, x, l, absent())
		old.check(t, name)
		check(t, name+", Of", Of(x.All()), l, absent())
	}
}

// tryAll makes of an index all others that so many calls make, each with the earlier ones beside it.
func tryAll(t *testing.T, x Index, l []api.Entry, left int) {
	check(t, "all ways", x, l, []api.Id{id(2, 0), id(1, 99), {}})
	if left == 0 {
		return
	}
	e := entry(1, uint32(len(l)), rune('a'+len(l)), left%2 == 0)
	for at := range len(l) + 1 {
		y, err := x.Put(at, e)
		if err != nil {
			t.Fatal(at, e, err)
		}
		tryAll(t, y, putByWords(l, at, e), left-1)
	}
	for i := range l {
		y, err := x.Hide(l[i].Id)
		if err != nil {
			t.Fatal(l[i], err)
		}
		tryAll(t, y, hideByWords(l, i), left-1)
	}
	checkSame(t, "all ways, handed in", x, l)
}

// P7.1 and P7.3: all that four calls make of none, and two of as many entries as a chunk bears, and of one less or more.
func TestAllWays(t *testing.T) {
	tryAll(t, Index{}, nil, 4)
	for n := api.Chunk - 1; n <= api.Chunk+1; n++ {
		var l []api.Entry
		for i := range n {
			l = append(l, entry(1, uint32(i), 'a', i%2 == 0))
		}
		tryAll(t, Of(l), l, 2)
	}
}

// mixer tells numbers that look mixed, the same ones each time.
type mixer uint32

func (m *mixer) below(n int) int {
	*m = *m*1664525 + 1013904223
	return int(*m>>8) % n
}

// P7.1 and P7.3: calls that are mixed, each on any earlier index, not on the last one alone; all of them stay.
func TestMixedCalls(t *testing.T) {
	for seed := range 20 {
		m := mixer(seed)
		var all kept
		start := m.below(60)
		all.add(Of(numberedUpTo(start)), numberedUpTo(start))
		for n := 100; n < 600; n++ {
			// Mostly a late one, so that they grow.
			from := len(all.indexes) - 1
			if m.below(4) == 0 {
				from = m.below(len(all.indexes))
			}
			x, l := all.indexes[from], all.entries[from]
			if len(l) > 0 && m.below(3) == 0 {
				at := m.below(len(l))
				y, err := x.Hide(l[at].Id)
				if err != nil {
					t.Fatal(seed, n, err)
				}
				all.add(y, hideByWords(l, at))
				continue
			}
			at := m.below(len(l) + 1)
			y, err := x.Put(at, numbered(n))
			if err != nil {
				t.Fatal(seed, n, err)
			}
			all.add(y, putByWords(l, at, numbered(n)))
		}
		all.check(t, "mixed calls")
		end := len(all.indexes) - 1
		check(t, "mixed calls", all.indexes[end], all.entries[end], absent())
	}
}

// P7.3: of one index, of whatever size, many are made; neither it nor any of them is changed by another one.
func TestManyOfOne(t *testing.T) {
	for _, n := range sizes() {
		if n > 100 {
			continue
		}
		l := numberedUpTo(n)
		var made kept
		x := Of(l)
		made.add(x, l)
		for at := range n + 1 {
			e := entry(4, 0, rune('A'+at%26), at%2 == 0)
			y, err := x.Put(at, e)
			if err != nil {
				t.Fatal(at, err)
			}
			made.add(y, putByWords(l, at, e))
		}
		for i := range l {
			y, err := x.Hide(l[i].Id)
			if err != nil {
				t.Fatal(i, err)
			}
			made.add(y, hideByWords(l, i))
		}
		made.check(t, "many of one")
	}
}

// spoil makes another thing of all that a list has, and has room for.
func spoil(l []api.Entry) {
	l = l[:cap(l)]
	for i := range l {
		l[i] = entry(99, 99, '!', !l[i].Gone)
	}
}

// P7.2 and R2: Of neither changes nor keeps what is handed in, nor what stands in the room behind it.
func TestMemoryOfOf(t *testing.T) {
	for _, n := range sizes() {
		room := append(numberedUpTo(n), entry(5, 1, 'r', false), entry(5, 2, 's', true))
		before := slices.Clone(room)
		handed := room[:n]
		x := Of(handed)
		y, err := x.Put(n/2, extra())
		if err != nil {
			t.Fatal(err)
		}
		if !slices.Equal(room, before) {
			t.Errorf("of %d: what is handed in is changed: %v", n, room)
		}
		spoil(room)
		check(t, "Of of what is changed then", x, before[:n], absent())
		checkSame(t, "Put behind it", y, putByWords(before[:n], n/2, extra()))
	}
}

// P7.2 and R2: what All tells is new memory, with its room, and All itself changes nothing.
func TestMemoryOfAll(t *testing.T) {
	for _, n := range sizes() {
		l := numberedUpTo(n)
		x := Of(l)
		grown, err := x.Put(n, extra())
		if err != nil {
			t.Fatal(err)
		}
		told, again := x.All(), x.All()
		spoil(told)
		if !slices.Equal(again, l) {
			t.Errorf("of %d: two of All share memory: %v", n, again)
		}
		check(t, "what All told is changed", x, l, absent())
		checkSame(t, "what All told is changed, an index of it", grown, putByWords(l, n, extra()))
		spoil(grown.All())
		spoil(append(x.All(), entry(99, 0, '!', false)))
		check(t, "what All told of another one is changed", x, l, absent())
		checkSame(t, "what All told is changed", grown, putByWords(l, n, extra()))
	}
}

// R2: what is refused changes nothing of what was handed in, and Hide of one that is Gone changes nothing either.
func TestMemoryOfWhatIsRefused(t *testing.T) {
	for _, n := range sizes() {
		l := numberedUpTo(n)
		x := Of(l)
		x.Put(-1, extra())
		x.Put(n+1, extra())
		x.Hide(id(4, 0))
		for i := range l {
			x.Put(i, l[i])
		}
		for i := 0; i < n; i += 3 {
			x.Hide(l[i].Id)
		}
		check(t, "refused", x, l, absent())
	}
}

// P1: no panic at places that are edges, of many sizes; each is answered as the words say.
func TestPlacesAtAllEdges(t *testing.T) {
	for _, n := range sizes() {
		l := numberedUpTo(n)
		x := Of(l)
		for _, at := range append(far(n), 0, 1, n-1, n, api.Chunk-1, api.Chunk, api.Chunk+1) {
			y, err := x.Put(at, nothings())
			if at < 0 || at > n {
				checkNone(t, "Put", y, err, api.ErrRange)
			} else if err != nil || !slices.Equal(y.All(), putByWords(l, at, nothings())) {
				t.Errorf("Put(%d) of %d: %v, %v", at, n, y.All(), err)
			}
			if e, err := x.Entry(at); (err == nil) != (at >= 0 && at < n) || err == nil && e != l[at] {
				t.Errorf("Entry(%d) of %d = %v, %v", at, n, e, err)
			}
			if k, err := x.At(at); (err == nil) != (at >= 0 && at < len(shownByWords(l))) || err == nil && k != shownByWords(l)[at] {
				t.Errorf("At(%d) of %d = %d, %v", at, n, k, err)
			}
		}
	}
}
