package vector

import (
	"math"
	"slices"
	"testing"

	"surcingle/api"
)

const last = math.MaxUint32

// clocks takes Client, Next, Client, Next and so on.
func clocks(numbers ...uint32) []api.Clock {
	var v []api.Clock
	for i := 0; i < len(numbers); i += 2 {
		v = append(v, api.Clock{Client: numbers[i], Next: numbers[i+1]})
	}
	return v
}

// clients are those that the vectors of all have, and some that they haven't: ahead of all, between, behind all.
func clients() []uint32 {
	return []uint32{0, 1, 2, 3, math.MaxInt32, math.MaxInt32 + 1, last - 1, last}
}

// nexts are the numbers at which a comparison of 32 bits would go wrong.
func nexts() []uint32 {
	return []uint32{0, 1, math.MaxInt32 + 1, last}
}

// all has each vector of three clients with each Next of nexts, the empty one among them.
func all() [][]api.Clock {
	l := [][]api.Clock{nil}
	for _, client := range []uint32{1, 3, last} {
		var longer [][]api.Clock
		for _, v := range l {
			for _, next := range nexts() {
				w := slices.Clone(v)
				if next > 0 {
					w = append(w, api.Clock{Client: client, Next: next})
				}
				longer = append(longer, w)
			}
		}
		l = longer
	}
	return l
}

// nextByWords goes through all of v, so that it leans on no order.
func nextByWords(v []api.Clock, client uint32) uint32 {
	for _, c := range v {
		if c.Client == client {
			return c.Next
		}
	}
	return 0
}

// byWords makes the one vector that has that Next of each of the clients.
func byWords(next func(client uint32) uint32) []api.Clock {
	var v []api.Clock
	for _, client := range clients() {
		if n := next(client); client > 0 && n > 0 {
			v = append(v, api.Clock{Client: client, Next: n})
		}
	}
	return v
}

// coversByWords asks of each of the clients.
func coversByWords(a, b []api.Clock) bool {
	for _, client := range clients() {
		if nextByWords(a, client) < nextByWords(b, client) {
			return false
		}
	}
	return true
}

// P2.1: what is a vector.
func TestMayTakesVectors(t *testing.T) {
	for _, v := range [][]api.Clock{
		nil,
		{},
		clocks(1, 1),
		clocks(2, 3, 5, 1),
		clocks(1, last, 2, 1),
		clocks(math.MaxInt32, 1, math.MaxInt32+1, 1),
		clocks(last, last),
		clocks(1, 1, 2, 1, 3, 1, last-1, 1, last, 1),
	} {
		if !May(v) {
			t.Errorf("May(%v) = false", v)
		}
	}
	for _, v := range all() {
		if !May(v) {
			t.Errorf("May(%v) = false", v)
		}
	}
}

// P2.1: what is no vector, with the fault at the beginning, between and at the end.
func TestMayRefusesWhatIsNoVector(t *testing.T) {
	for _, v := range [][]api.Clock{
		clocks(0, 0),
		clocks(0, 1),
		clocks(0, 1, 1, 1),
		clocks(1, 1, 0, 1),
		clocks(1, 0),
		clocks(1, 0, 2, 1),
		clocks(1, 1, 2, 0, 3, 1),
		clocks(1, 1, 2, 0),
		clocks(1, 1, 1, 1),
		clocks(1, 1, 1, 2),
		clocks(5, 1, 2, 3),
		clocks(1, 1, 3, 1, 2, 1),
		clocks(1, 1, 3, 1, 3, 1),
		clocks(2, 1, 1, 1, 3, 1),
		clocks(math.MaxInt32+1, 1, math.MaxInt32, 1),
		clocks(last, 1, 0, 1),
		clocks(last, 1, last, 1),
	} {
		if May(v) {
			t.Errorf("May(%v) = true", v)
		}
	}
}

// P1 and P2.1: May is promised of all lists; here all of up to three clocks.
func TestMayOfAllShortLists(t *testing.T) {
	some := clocks(0, 0, 0, 1, 1, 0, 1, 1, 2, 1, 2, last, last, 0, last, last)
	l := [][]api.Clock{nil}
	for from := 0; len(l[from]) < 3; from++ {
		for _, c := range some {
			l = append(l, append(slices.Clone(l[from]), c))
		}
	}
	for _, v := range l {
		want := true
		for i, c := range v {
			if c.Client == 0 || c.Next == 0 || i > 0 && c.Client <= v[i-1].Client {
				want = false
			}
		}
		if got := May(v); got != want {
			t.Errorf("May(%v) = %v, want %v", v, got, want)
		}
	}
}

// P2.1 and R3: a client without clocks, and client 0, have Next 0.
func TestNextTellsTheClientsNext(t *testing.T) {
	v := clocks(2, 3, 5, 1, last, last)
	for _, c := range []struct {
		v            []api.Clock
		client, want uint32
	}{
		{v, 2, 3},
		{v, 5, 1},
		{v, last, last},
		{v, 0, 0},
		{v, 1, 0},
		{v, 3, 0},
		{v, 6, 0},
		{v[:2], last, 0},
		{nil, 0, 0},
		{nil, 1, 0},
		{clocks(), last, 0},
	} {
		if got := Next(c.v, c.client); got != c.want {
			t.Errorf("Next(%v, %d) = %d, want %d", c.v, c.client, got, c.want)
		}
	}
	for _, v := range all() {
		for _, client := range clients() {
			if got, want := Next(v, client), nextByWords(v, client); got != want {
				t.Errorf("Next(%v, %d) = %d, want %d", v, client, got, want)
			}
		}
	}
}

// P2.1: ordinary inputs and the edges that the document names.
func TestSetTellsVWithThatNext(t *testing.T) {
	v := clocks(2, 3, 5, 1)
	for _, c := range []struct {
		name         string
		v            []api.Clock
		client, next uint32
		want         []api.Clock
	}{
		{"the document's example", nil, 5, 2, clocks(5, 2)},
		{"a greater Next", v, 2, 9, clocks(2, 9, 5, 1)},
		{"a lesser Next", v, 2, 1, clocks(2, 1, 5, 1)},
		{"the same Next", v, 5, 1, v},
		{"a client ahead of all", v, 1, 7, clocks(1, 7, 2, 3, 5, 1)},
		{"a client between", v, 3, 4, clocks(2, 3, 3, 4, 5, 1)},
		{"a client behind all", v, 9, 1, clocks(2, 3, 5, 1, 9, 1)},
		{"the last client, the last Next", v, last, last, clocks(2, 3, 5, 1, last, last)},
		{"0: the first goes", v, 2, 0, clocks(5, 1)},
		{"0: the last one goes", v, 5, 0, clocks(2, 3)},
		{"0: the only one goes", clocks(5, 1), 5, 0, nil},
		{"0: a client without clocks", v, 3, 0, v},
		{"0: of the empty vector", nil, 3, 0, nil},
		{"client 0", v, 0, 7, v},
		{"client 0, Next 0", v, 0, 0, v},
		{"client 0, the last Next", v, 0, last, v},
		{"client 0 of the empty vector", nil, 0, 7, nil},
	} {
		if got := Set(c.v, c.client, c.next); !slices.Equal(got, c.want) {
			t.Errorf("%s: Set(%v, %d, %d) = %v, want %v", c.name, c.v, c.client, c.next, got, c.want)
		}
	}
}

// P2.1: what is told is a vector, in which that client alone has another Next.
func TestSetOfAllVectors(t *testing.T) {
	for _, v := range all() {
		for _, client := range clients() {
			for _, next := range nexts() {
				want := byWords(func(c uint32) uint32 {
					if c == client {
						return next
					}
					return nextByWords(v, c)
				})
				if got := Set(v, client, next); !slices.Equal(got, want) || !May(got) {
					t.Errorf("Set(%v, %d, %d) = %v, want %v", v, client, next, got, want)
				}
			}
		}
	}
}

// P2.1: ordinary inputs and empty vectors, in both orders.
func TestMergeTellsTheGreaterNexts(t *testing.T) {
	for _, c := range []struct{ a, b, want []api.Clock }{
		{nil, nil, nil},
		{clocks(2, 3), nil, clocks(2, 3)},
		{clocks(2, 3), clocks(2, 3), clocks(2, 3)},
		{clocks(2, 3), clocks(2, 4), clocks(2, 4)},
		{clocks(2, 3), clocks(5, 1), clocks(2, 3, 5, 1)},
		{clocks(2, 3, 5, 1), clocks(1, 1, 2, 2, 5, 4), clocks(1, 1, 2, 3, 5, 4)},
		{clocks(1, 1, 3, 3, 5, 5), clocks(2, 2, 4, 4, 6, 6), clocks(1, 1, 2, 2, 3, 3, 4, 4, 5, 5, 6, 6)},
		{clocks(1, 1), clocks(2, 2, 3, 3, 4, 4), clocks(1, 1, 2, 2, 3, 3, 4, 4)},
		{clocks(1, math.MaxInt32+1, last, 1), clocks(1, 1, last, last), clocks(1, math.MaxInt32+1, last, last)},
	} {
		if got := Merge(c.a, c.b); !slices.Equal(got, c.want) {
			t.Errorf("Merge(%v, %v) = %v, want %v", c.a, c.b, got, c.want)
		}
		if got := Merge(c.b, c.a); !slices.Equal(got, c.want) {
			t.Errorf("Merge(%v, %v) = %v, want %v", c.b, c.a, got, c.want)
		}
	}
}

// P2.1: ordinary inputs and empty vectors.
func TestCoversTellsWhetherAHasAllOfB(t *testing.T) {
	v := clocks(2, 3, 5, 1)
	for _, c := range []struct {
		a, b []api.Clock
		want bool
	}{
		{nil, nil, true},
		{v, nil, true},
		{nil, v, false},
		{v, v, true},
		{v, clocks(2, 2), true},
		{v, clocks(5, 1), true},
		{v, clocks(2, 4), false},
		{v, clocks(2, 3, 5, 2), false},
		{v, clocks(3, 1), false},
		{v, clocks(1, 1), false},
		{v, clocks(2, 3, 5, 1, 9, 1), false},
		{v, clocks(1, 1, 2, 2, 5, 4), false},
		{clocks(1, 1, 2, 2, 5, 4), v, false},
		{clocks(1, last), clocks(1, math.MaxInt32), true},
		{clocks(1, math.MaxInt32), clocks(1, last), false},
	} {
		if got := Covers(c.a, c.b); got != c.want {
			t.Errorf("Covers(%v, %v) = %v, want %v", c.a, c.b, got, c.want)
		}
	}
}

// P2.1: of each client, for all pairs of vectors.
func TestMergeAndCoversOfAllPairs(t *testing.T) {
	for _, a := range all() {
		for _, b := range all() {
			want := byWords(func(c uint32) uint32 { return max(nextByWords(a, c), nextByWords(b, c)) })
			if got := Merge(a, b); !slices.Equal(got, want) || !May(got) {
				t.Errorf("Merge(%v, %v) = %v, want %v", a, b, got, want)
			}
			if got, want := Covers(a, b), coversByWords(a, b); got != want {
				t.Errorf("Covers(%v, %v) = %v, want %v", a, b, got, want)
			}
		}
	}
}

// P2.3: Merge covers both, and is covered by all that cover both.
func TestMergeIsTheLeastThatCoversBoth(t *testing.T) {
	l := all()
	for _, a := range l {
		for _, b := range l {
			m := Merge(a, b)
			if !Covers(m, a) || !Covers(m, b) {
				t.Errorf("Merge(%v, %v) = %v doesn't cover both", a, b, m)
			}
			for _, c := range l {
				if Covers(c, a) && Covers(c, b) && !Covers(c, m) {
					t.Errorf("%v covers %v and %v, but not what they are merged to, %v", c, a, b, m)
				}
			}
		}
	}
}

// roomy has v with room behind it, which an append to v itself would write to.
func roomy(v []api.Clock) []api.Clock {
	return append(append(make([]api.Clock, 0, len(v)+8), v...), clocks(77, 77, 78, 78, 79, 79, 80, 80, 81, 81, 82, 82)...)[:len(v)]
}

// whole has v and the room behind it.
func whole(v []api.Clock) []api.Clock { return v[:cap(v)] }

// spoil overwrites a list and the room behind it.
func spoil(v []api.Clock) {
	for i := range whole(v) {
		whole(v)[i] = api.Clock{Client: 99, Next: 99}
	}
}

// checkMemory asks P2.2 of one call, at vectors with room behind them.
func checkMemory(t *testing.T, name string, a, b []api.Clock, call func(a, b []api.Clock) []api.Clock) {
	t.Helper()
	a, b = roomy(a), roomy(b)
	wholeA, wholeB := slices.Clone(whole(a)), slices.Clone(whole(b))
	told := call(a, b)
	want := slices.Clone(told)
	if !slices.Equal(whole(a), wholeA) || !slices.Equal(whole(b), wholeB) {
		t.Errorf("%s changes what is handed in: %v, %v", name, whole(a), whole(b))
	}
	again := call(a, b)
	spoil(told)
	if !slices.Equal(whole(a), wholeA) || !slices.Equal(whole(b), wholeB) || !slices.Equal(again, want) {
		t.Errorf("%s tells memory that is not new", name)
	}
	spoil(a)
	spoil(b)
	if !slices.Equal(again, want) {
		t.Errorf("%s keeps what is handed in", name)
	}
}

// P2.2 and R2: of all calls, where they tell what was handed in as it was, too.
func TestMemory(t *testing.T) {
	vectors := [][]api.Clock{nil, clocks(1, 1), clocks(2, 3, 5, 1), clocks(1, 1, 2, 2, 5, 4)}
	for _, a := range vectors {
		for _, client := range []uint32{0, 1, 2, 3, 5, 9} {
			for _, next := range []uint32{0, 1, 3, 9} {
				checkMemory(t, "Set", a, nil, func(a, _ []api.Clock) []api.Clock { return Set(a, client, next) })
			}
			checkMemory(t, "Next", a, nil, func(a, _ []api.Clock) []api.Clock { return clocks(1, Next(a, client)) })
		}
		checkMemory(t, "May", a, nil, func(a, _ []api.Clock) []api.Clock { May(a); return nil })
		for _, b := range vectors {
			checkMemory(t, "Merge", a, b, Merge)
			checkMemory(t, "Covers", a, b, func(a, b []api.Clock) []api.Clock { Covers(a, b); return nil })
		}
	}
}

// P2.2: one list, handed in twice, is not told either.
func TestMergeOfOneListWithItself(t *testing.T) {
	v := clocks(2, 3, 5, 1)
	m := Merge(v, v)
	if !slices.Equal(m, v) {
		t.Fatalf("Merge(%v, %v) = %v", v, v, m)
	}
	spoil(m)
	if !slices.Equal(v, clocks(2, 3, 5, 1)) {
		t.Error("Merge tells memory that is not new")
	}
}
