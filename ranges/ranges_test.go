package ranges

import (
	"math"
	"slices"
	"testing"

	"surcingle/api"
)

const last = math.MaxUint32

func span(client, from, to uint32) api.Span { return api.Span{Client: client, From: from, To: to} }

func id(client, clock uint32) api.Id { return api.Id{Client: client, Clock: clock} }

// spans takes Client, From, To, Client, From, To and so on.
func spans(numbers ...uint32) []api.Span {
	var l []api.Span
	for i := 0; i < len(numbers); i += 3 {
		l = append(l, span(numbers[i], numbers[i+1], numbers[i+2]))
	}
	return l
}

// width is how many clocks a small world has.
const width = 4

// bases are where small worlds of clocks begin: the least clocks, those around 31 bits, and the greatest.
func bases() []uint32 { return []uint32{0, math.MaxInt32 - 1, last - width + 1} }

// world has all spans of clients 0, 1 and 2 with numbers of a small world, those of no Ids among them.
func world(base uint32) []api.Span {
	var l []api.Span
	for client := range uint32(3) {
		for from := range uint32(width) {
			for to := range uint32(width) {
				l = append(l, span(client, base+from, base+to))
			}
		}
	}
	return l
}

// lists has all lists of up to n of some spans.
func lists(some []api.Span, n int) [][]api.Span {
	l := [][]api.Span{nil}
	for from := 0; len(l[from]) < n; from++ {
		for _, s := range some {
			l = append(l, append(slices.Clone(l[from]), s))
		}
	}
	return l
}

// worldIds has all Ids of a small world, those of client 0 among them.
func worldIds(base uint32) []api.Id {
	var l []api.Id
	for client := range uint32(4) {
		for clock := range uint32(width) {
			l = append(l, id(client, base+clock))
		}
	}
	return l
}

// hasByWords goes through all of l, so that it leans on no order.
func hasByWords(l []api.Span, a api.Id) bool {
	return slices.ContainsFunc(l, func(s api.Span) bool {
		return a.Client != 0 && s.Client == a.Client && s.From <= a.Clock && a.Clock < s.To
	})
}

// members has the Ids of a small world that are in one of the spans.
func members(l []api.Span, base uint32) []api.Id {
	var in []api.Id
	for _, a := range worldIds(base) {
		if hasByWords(l, a) {
			in = append(in, a)
		}
	}
	return in
}

// setByWords makes the set of Ids that rise, one by one; none of their clocks is the last one, as no span has it.
func setByWords(rising []api.Id) []api.Span {
	var l []api.Span
	for _, a := range rising {
		if n := len(l); n > 0 && l[n-1].Client == a.Client && l[n-1].To == a.Clock {
			l[n-1].To++
		} else {
			l = append(l, span(a.Client, a.Clock, a.Clock+1))
		}
	}
	return l
}

// mayByWords asks of each span, and of each two, what the document says of a set.
func mayByWords(l []api.Span) bool {
	for i, s := range l {
		if s.Client < 1 || s.From >= s.To {
			return false
		}
		for _, behind := range l[i+1:] {
			rise := s.Client < behind.Client || s.Client == behind.Client && s.From < behind.From
			gap := s.Client != behind.Client || int64(behind.From)-int64(s.To) >= 1
			if !rise || !gap {
				return false
			}
		}
	}
	return true
}

// allSets has each set of a small world, the empty one among them.
func allSets(base uint32) [][]api.Span {
	chosen := [][]api.Id{nil}
	for client := uint32(1); client < 3; client++ {
		for clock := range uint32(width - 1) {
			for _, l := range chosen {
				chosen = append(chosen, append(slices.Clone(l), id(client, base+clock)))
			}
		}
	}
	var l [][]api.Span
	for _, c := range chosen {
		l = append(l, setByWords(c))
	}
	return l
}

// P3.1: what is a set.
func TestMayTakesSets(t *testing.T) {
	for _, l := range [][]api.Span{
		nil,
		{},
		spans(1, 0, 1),
		spans(1, 0, last),
		spans(1, last-1, last),
		spans(last, last-1, last),
		spans(1, 0, 2, 1, 3, 5),
		spans(1, 0, 2, 1, 9, 10, 2, 0, 1),
		spans(1, 5, 9, 2, 0, 1),
		spans(1, 5, 9, 2, 5, 9, 3, 9, 10),
		spans(1, 0, last-2, 1, last-1, last),
		spans(1, 0, math.MaxInt32, 1, math.MaxInt32+1, last),
		spans(math.MaxInt32, 0, 1, math.MaxInt32+1, 0, 1, last, 0, 1),
	} {
		if !May(l) {
			t.Errorf("May(%v) = false", l)
		}
	}
	for _, base := range bases() {
		for _, l := range allSets(base) {
			if !May(l) {
				t.Errorf("May(%v) = false", l)
			}
		}
	}
}

// P3.1: what is no set, with the fault at the beginning, between and at the end.
func TestMayRefusesWhatIsNoSet(t *testing.T) {
	for _, c := range []struct {
		name string
		l    []api.Span
	}{
		{"the zero span", spans(0, 0, 0)},
		{"client 0", spans(0, 1, 2)},
		{"client 0 at the beginning", spans(0, 1, 2, 1, 0, 1)},
		{"client 0 at the end", spans(1, 0, 1, 0, 1, 2)},
		{"empty", spans(1, 2, 2)},
		{"empty at 0", spans(1, 0, 0)},
		{"empty at the last number", spans(1, last, last)},
		{"empty between", spans(1, 0, 1, 1, 3, 3, 1, 5, 6)},
		{"empty at the end", spans(1, 0, 1, 2, 3, 3)},
		{"From above To", spans(1, 3, 2)},
		{"From far above To", spans(1, last, 0)},
		{"From above To at the end", spans(1, 0, 1, 1, 4, 3)},
		{"two that touch", spans(1, 0, 2, 1, 2, 3)},
		{"two that touch at the end", spans(1, 0, 1, 2, 0, 2, 2, 2, 3)},
		{"two that touch at the greatest clocks", spans(1, 0, last-1, 1, last-1, last)},
		{"two that overlap", spans(1, 0, 2, 1, 1, 3)},
		{"one inside another", spans(1, 0, 9, 1, 3, 5)},
		{"one twice", spans(1, 0, 2, 1, 0, 2)},
		{"one From twice", spans(1, 0, 2, 1, 0, 5)},
		{"Froms that fall", spans(1, 5, 7, 1, 0, 2)},
		{"Froms that fall between", spans(1, 3, 4, 1, 0, 2, 1, 6, 7)},
		{"Clients that fall", spans(2, 0, 1, 1, 0, 1)},
		{"Clients that fall, Froms that rise", spans(2, 0, 1, 1, 5, 6)},
		{"a Client that comes again", spans(1, 0, 1, 2, 0, 1, 1, 5, 6)},
		{"Clients that fall beyond 31 bits", spans(math.MaxInt32+1, 0, 1, math.MaxInt32, 0, 1)},
	} {
		if May(c.l) {
			t.Errorf("%s: May(%v) = true", c.name, c.l)
		}
	}
}

// P1 and P3.1: May is promised of all lists; here all of up to three spans of small worlds.
func TestMayOfAllShortLists(t *testing.T) {
	for _, base := range bases() {
		for _, l := range lists(world(base), 3) {
			if got, want := May(l), mayByWords(l); got != want {
				t.Fatalf("May(%v) = %v, want %v", l, got, want)
			}
		}
	}
}

// P3.1: ordinary inputs and the edges that the document names.
func TestOfTellsTheSetOfAllIds(t *testing.T) {
	for _, c := range []struct {
		name    string
		l, want []api.Span
	}{
		{"the document's example", spans(1, 0, 2, 1, 2, 5), spans(1, 0, 5)},
		{"no spans at all", nil, nil},
		{"no spans, but a list", []api.Span{}, nil},
		{"a set", spans(1, 0, 2, 1, 3, 5, 2, 0, 1), spans(1, 0, 2, 1, 3, 5, 2, 0, 1)},
		{"two that touch, the later one first", spans(1, 2, 5, 1, 0, 2), spans(1, 0, 5)},
		{"two that overlap", spans(1, 0, 4, 1, 2, 7), spans(1, 0, 7)},
		{"two that overlap, the later one first", spans(1, 2, 7, 1, 0, 4), spans(1, 0, 7)},
		{"one inside another", spans(1, 0, 9, 1, 3, 5), spans(1, 0, 9)},
		{"one inside another, and one that touches the outer", spans(1, 0, 9, 1, 3, 5, 1, 9, 10), spans(1, 0, 10)},
		{"one twice", spans(1, 3, 5, 1, 3, 5), spans(1, 3, 5)},
		{"one From, the longer one first", spans(1, 3, 9, 1, 3, 5), spans(1, 3, 9)},
		{"one From, the shorter one first", spans(1, 3, 5, 1, 3, 9), spans(1, 3, 9)},
		{"one that fills a gap", spans(1, 0, 2, 1, 5, 7, 1, 2, 5), spans(1, 0, 7)},
		{"a clock between", spans(1, 3, 5, 1, 0, 2), spans(1, 0, 2, 1, 3, 5)},
		{"clocks that touch, of two clients", spans(2, 2, 5, 1, 0, 2), spans(1, 0, 2, 2, 2, 5)},
		{"the same clocks of two clients", spans(2, 0, 2, 1, 0, 2), spans(1, 0, 2, 2, 0, 2)},
		{"client 0", spans(0, 0, 5), nil},
		{"client 0 beside others", spans(1, 0, 2, 0, 0, last, 1, 4, 5), spans(1, 0, 2, 1, 4, 5)},
		{"empty", spans(1, 4, 4), nil},
		{"empty, in a gap", spans(1, 0, 2, 1, 3, 3, 1, 4, 5), spans(1, 0, 2, 1, 4, 5)},
		{"empty, where two touch", spans(1, 0, 2, 1, 2, 2, 1, 2, 5), spans(1, 0, 5)},
		{"From above To", spans(1, 8, 3), nil},
		{"From above To, around a gap", spans(1, 0, 2, 1, 5, 1, 1, 4, 6), spans(1, 0, 2, 1, 4, 6)},
		{"From far above To", spans(1, last, 0, 1, last, last), nil},
		{"all clocks", spans(1, 0, last), spans(1, 0, last)},
		{"all clocks, twice", spans(1, 0, last, 1, 0, last), spans(1, 0, last)},
		{"all clocks of two halves", spans(1, math.MaxInt32+1, last, 1, 0, math.MaxInt32+1), spans(1, 0, last)},
		{"the greatest clocks apart", spans(1, last-1, last, 1, 0, last-2), spans(1, 0, last-2, 1, last-1, last)},
		{"the greatest clocks that touch", spans(1, last-1, last, 1, last-2, last-1), spans(1, last-2, last)},
		{"the greatest client", spans(last, 0, 1, 1, 0, 1), spans(1, 0, 1, last, 0, 1)},
	} {
		if got := Of(c.l); !slices.Equal(got, c.want) || !May(got) {
			t.Errorf("%s: Of(%v) = %v, want %v", c.name, c.l, got, c.want)
		}
	}
}

// P1 and P3.1: Of is promised of all lists; here all of up to three spans of small worlds.
func TestOfAllShortLists(t *testing.T) {
	for _, base := range bases() {
		for _, l := range lists(world(base), 3) {
			want := setByWords(members(l, base))
			if got := Of(l); !slices.Equal(got, want) || !May(got) {
				t.Fatalf("Of(%v) = %v, want %v", l, got, want)
			}
		}
	}
}

// mixed has n spans in no order, of some clients and clocks, the same for the same seed.
func mixed(n int, seed uint32) []api.Span {
	next := func(below uint32) uint32 {
		seed = seed*1664525 + 1013904223
		return (seed >> 8) % below
	}
	var l []api.Span
	for range n {
		from := next(400)
		l = append(l, span(next(4), from, from+next(6)))
	}
	return l
}

// longByWords marks each Id of the spans that mixed tells, and makes the set of those marked.
func longByWords(l []api.Span) []api.Span {
	var in []api.Id
	for client := range uint32(5) {
		for clock := range uint32(410) {
			if a := id(client, clock); hasByWords(l, a) {
				in = append(in, a)
			}
		}
	}
	return setByWords(in)
}

// P3.1: Of and Join of lists that are longer than short ones, which a sort may treat in another way.
func TestOfAndJoinOfLongLists(t *testing.T) {
	for seed := range uint32(20) {
		a, b := mixed(20+10*int(seed), seed), mixed(150, seed+100)
		setA, setB := Of(a), Of(b)
		if want := longByWords(a); !slices.Equal(setA, want) {
			t.Fatalf("Of(%v) = %v, want %v", a, setA, want)
		}
		want := longByWords(slices.Concat(a, b))
		if got := Join(setA, setB); !slices.Equal(got, want) {
			t.Fatalf("Join(%v, %v) = %v, want %v", setA, setB, got, want)
		}
		for clock := range uint32(410) {
			for client := range uint32(5) {
				if a := id(client, clock); Has(setB, a) != hasByWords(b, a) {
					t.Fatalf("Has(%v, %v) = %v", setB, a, Has(setB, a))
				}
			}
		}
	}
}

// P3.1: each span has its From, and hasn't its To; client 0 has nothing.
func TestHasTellsWhetherAnIdIsInIt(t *testing.T) {
	l := spans(1, 0, 3, 1, 5, 9, 2, 4, 5, last, 0, last)
	for _, c := range []struct {
		l    []api.Span
		a    api.Id
		want bool
	}{
		{l, id(1, 0), true},
		{l, id(1, 2), true},
		{l, id(1, 3), false},
		{l, id(1, 4), false},
		{l, id(1, 5), true},
		{l, id(1, 8), true},
		{l, id(1, 9), false},
		{l, id(1, last), false},
		{l, id(2, 0), false},
		{l, id(2, 3), false},
		{l, id(2, 4), true},
		{l, id(2, 5), false},
		{l, id(3, 4), false},
		{l, id(last-1, 4), false},
		{l, id(last, 0), true},
		{l, id(last, math.MaxInt32+1), true},
		{l, id(last, last-1), true},
		{l, id(last, last), false},
		{l, id(0, 0), false},
		{l, id(0, 5), false},
		{nil, id(1, 0), false},
		{nil, api.Id{}, false},
		{[]api.Span{}, id(last, last), false},
	} {
		if got := Has(c.l, c.a); got != c.want {
			t.Errorf("Has(%v, %v) = %v, want %v", c.l, c.a, got, c.want)
		}
	}
}

// P3.1: of each set and each Id of small worlds.
func TestHasAndCountOfAllSets(t *testing.T) {
	for _, base := range bases() {
		for _, l := range allSets(base) {
			n := uint64(0)
			for _, a := range worldIds(base) {
				want := hasByWords(l, a)
				if want {
					n++
				}
				if got := Has(l, a); got != want {
					t.Errorf("Has(%v, %v) = %v, want %v", l, a, got, want)
				}
			}
			if got := Count(l); got != n {
				t.Errorf("Count(%v) = %d, want %d", l, got, n)
			}
		}
	}
}

// P3.1: ordinary inputs, sets that touch, overlap, or have nothing to do with each other, in both orders.
func TestJoinTellsWhatIsInOneOfBoth(t *testing.T) {
	for _, c := range []struct{ a, b, want []api.Span }{
		{nil, nil, nil},
		{spans(1, 0, 2), nil, spans(1, 0, 2)},
		{spans(1, 0, 2, 1, 3, 4, 2, 0, 1), nil, spans(1, 0, 2, 1, 3, 4, 2, 0, 1)},
		{spans(1, 0, 2), spans(1, 0, 2), spans(1, 0, 2)},
		{spans(1, 0, 2), spans(1, 2, 5), spans(1, 0, 5)},
		{spans(1, 0, 2), spans(1, 3, 5), spans(1, 0, 2, 1, 3, 5)},
		{spans(1, 0, 4), spans(1, 2, 7), spans(1, 0, 7)},
		{spans(1, 0, 9), spans(1, 2, 4, 1, 6, 7), spans(1, 0, 9)},
		{spans(1, 0, 9), spans(1, 2, 4, 1, 6, 7, 1, 9, 10), spans(1, 0, 10)},
		{spans(1, 0, 5), spans(1, 0, 3, 1, 4, 9), spans(1, 0, 9)},
		{spans(1, 0, 2, 1, 4, 6, 1, 8, 9), spans(1, 2, 4, 1, 6, 8), spans(1, 0, 9)},
		{spans(1, 0, 2, 1, 4, 6), spans(1, 1, 5), spans(1, 0, 6)},
		{spans(1, 0, 2), spans(2, 2, 5), spans(1, 0, 2, 2, 2, 5)},
		{spans(1, 5, 7, 3, 0, 1), spans(2, 0, 1, 4, 0, 1), spans(1, 5, 7, 2, 0, 1, 3, 0, 1, 4, 0, 1)},
		{spans(1, 0, math.MaxInt32+1), spans(1, math.MaxInt32+1, last), spans(1, 0, last)},
		{spans(1, 0, last), spans(1, last-1, last), spans(1, 0, last)},
		{spans(1, 0, last-2), spans(1, last-1, last), spans(1, 0, last-2, 1, last-1, last)},
		{spans(1, 0, last-2, 1, last-1, last), spans(1, last-2, last-1), spans(1, 0, last)},
		{spans(last, 0, last), spans(1, 0, last), spans(1, 0, last, last, 0, last)},
	} {
		if got := Join(c.a, c.b); !slices.Equal(got, c.want) {
			t.Errorf("Join(%v, %v) = %v, want %v", c.a, c.b, got, c.want)
		}
		if got := Join(c.b, c.a); !slices.Equal(got, c.want) {
			t.Errorf("Join(%v, %v) = %v, want %v", c.b, c.a, got, c.want)
		}
	}
}

// P3.1: of all pairs of sets of small worlds.
func TestJoinOfAllPairs(t *testing.T) {
	for _, base := range bases() {
		for _, a := range allSets(base) {
			for _, b := range allSets(base) {
				want := setByWords(members(slices.Concat(a, b), base))
				if got := Join(a, b); !slices.Equal(got, want) || !May(got) {
					t.Fatalf("Join(%v, %v) = %v, want %v", a, b, got, want)
				}
			}
		}
	}
}

// P3.1: counts that 32 bits can't hold, too.
func TestCountTellsHowManyIds(t *testing.T) {
	for _, c := range []struct {
		l    []api.Span
		want uint64
	}{
		{nil, 0},
		{[]api.Span{}, 0},
		{spans(1, 0, 1), 1},
		{spans(1, 5, 9), 4},
		{spans(1, 0, 2, 1, 5, 9, 2, 3, 4), 7},
		{spans(1, last-1, last), 1},
		{spans(1, 0, last), last},
		{spans(1, 0, last-2, 1, last-1, last), last - 1},
		{spans(1, 0, last, 2, 0, 1), last + 1},
		{spans(1, 0, last, 2, 0, last, last, 0, last), 3 * last},
	} {
		if got := Count(c.l); got != c.want {
			t.Errorf("Count(%v) = %d, want %d", c.l, got, c.want)
		}
	}
}

// P3.3: of all short lists that are sets, no two that differ have the same Ids; and a set is the set of its own spans.
func TestSetsWithTheSameIdsAreTheSame(t *testing.T) {
	for _, base := range bases() {
		seen := map[[16]bool][]api.Span{}
		for _, l := range lists(world(base), 3) {
			if !May(l) {
				continue
			}
			var in [16]bool
			for i, a := range worldIds(base) {
				in[i] = Has(l, a)
			}
			if other, ok := seen[in]; ok && !slices.Equal(l, other) {
				t.Errorf("%v and %v have the same Ids", l, other)
			}
			seen[in] = l
			if got := Of(l); !slices.Equal(got, l) {
				t.Errorf("Of(%v) = %v", l, got)
			}
		}
	}
}

// P3.3: lists of the same Ids, in whatever order and pieces, have the same set.
func TestOfHangsOnTheIdsAlone(t *testing.T) {
	for seed := range uint32(20) {
		l := mixed(100, seed)
		backwards := slices.Clone(l)
		slices.Reverse(backwards)
		var pieces []api.Span
		for _, s := range backwards {
			for clock := s.From; clock < s.To; clock++ {
				pieces = append(pieces, span(s.Client, clock, clock+1))
			}
		}
		want := Of(l)
		for _, other := range [][]api.Span{backwards, pieces, want, slices.Concat(l, pieces)} {
			if got := Of(other); !slices.Equal(got, want) {
				t.Errorf("Of(%v) = %v, want %v", other, got, want)
			}
		}
		if got := Join(Of(l[:50]), Of(l[50:])); !slices.Equal(got, want) {
			t.Errorf("joined from two halves: %v, want %v", got, want)
		}
	}
}

// roomy has l with room behind it, which an append to l itself would write to.
func roomy(l []api.Span) []api.Span {
	room := spans(77, 7, 8, 78, 7, 8, 79, 7, 8, 80, 7, 8)
	return slices.Concat(l, room)[:len(l)]
}

// whole has l and the room behind it.
func whole(l []api.Span) []api.Span { return l[:cap(l)] }

// spoil overwrites a list and the room behind it.
func spoil(l []api.Span) {
	for i := range whole(l) {
		whole(l)[i] = span(99, 9, 99)
	}
}

// checkMemory asks P3.2 of one call, at lists with room behind them.
func checkMemory(t *testing.T, name string, a, b []api.Span, call func(a, b []api.Span) []api.Span) {
	t.Helper()
	a, b = roomy(a), roomy(b)
	wholeA, wholeB := slices.Clone(whole(a)), slices.Clone(whole(b))
	asItWas := func() bool { return slices.Equal(whole(a), wholeA) && slices.Equal(whole(b), wholeB) }
	told := call(a, b)
	want := slices.Clone(told)
	if !asItWas() {
		t.Errorf("%s changes what is handed in: %v, %v", name, whole(a), whole(b))
	}
	again := call(a, b)
	spoil(told)
	if !asItWas() || !slices.Equal(again, want) {
		t.Errorf("%s tells memory that is not new", name)
	}
	spoil(a)
	spoil(b)
	if !slices.Equal(again, want) {
		t.Errorf("%s keeps what is handed in", name)
	}
}

// P3.2 and R2: of all calls, where they tell what was handed in as it was, too.
func TestMemory(t *testing.T) {
	sets := [][]api.Span{nil, spans(1, 0, 2), spans(1, 0, 2, 1, 4, 5, 2, 0, 1), spans(1, 2, 4, 3, 0, 9)}
	noSets := [][]api.Span{
		spans(1, 2, 5, 1, 0, 2), spans(1, 0, 2, 1, 2, 5), spans(2, 0, 1, 1, 0, 1), spans(0, 1, 9, 1, 0, 1), spans(1, 4, 4, 2, 0, 1), spans(1, 0, 4, 1, 2, 9, 2, 0, 1),
	}
	for _, a := range slices.Concat(sets, noSets) {
		checkMemory(t, "May", a, nil, func(a, _ []api.Span) []api.Span { May(a); return nil })
		checkMemory(t, "Of", a, nil, func(a, _ []api.Span) []api.Span { return Of(a) })
	}
	for _, a := range sets {
		checkMemory(t, "Count", a, nil, func(a, _ []api.Span) []api.Span { Count(a); return nil })
		for clock := range uint32(6) {
			checkMemory(t, "Has", a, nil, func(a, _ []api.Span) []api.Span { Has(a, id(1, clock)); return nil })
		}
		for _, b := range sets {
			checkMemory(t, "Join", a, b, Join)
		}
	}
}

// P3.2: one list, handed in twice, is not told either.
func TestJoinOfOneListWithItself(t *testing.T) {
	l := spans(1, 0, 2, 1, 4, 5)
	told := Join(l, l)
	if !slices.Equal(told, l) {
		t.Fatalf("Join(%v, %v) = %v", l, l, told)
	}
	spoil(told)
	if !slices.Equal(l, spans(1, 0, 2, 1, 4, 5)) {
		t.Error("Join tells memory that is not new")
	}
}
