package ids

import (
	"errors"
	"math"
	"slices"
	"testing"

	"surcingle/api"
)

const last = math.MaxUint32

func id(client, clock uint32) api.Id { return api.Id{Client: client, Clock: clock} }

// edges are the numbers at which a comparison or a sum of 32 bits would go wrong.
func edges() []uint32 {
	return []uint32{0, 1, 2, math.MaxInt32, math.MaxInt32 + 1, last - 1, last}
}

// rising has the Ids of all edges, as P1.1 orders them.
func rising() []api.Id {
	var l []api.Id
	for _, client := range edges() {
		for _, clock := range edges() {
			l = append(l, id(client, clock))
		}
	}
	return l
}

// P1.1: by Client, then by Clock, and the answer is one of -1, 0, 1.
func TestCmpTellsHowTwoIdsStand(t *testing.T) {
	for _, c := range []struct {
		a, b api.Id
		want int
	}{
		{id(1, 3), id(1, 3), 0},
		{id(1, 3), id(1, 4), -1},
		{id(1, 4), id(1, 3), 1},
		{id(1, 9), id(2, 0), -1},
		{id(2, 0), id(1, 9), 1},
		{id(0, 0), id(0, 0), 0},
		{id(0, 0), id(0, 5), -1},
		{id(0, last), id(1, 0), -1},
		{id(1, 0), id(1, last), -1},
		{id(1, last), id(1, 0), 1},
		{id(last, 0), id(1, last), 1},
		{id(1, last), id(last, 0), -1},
		{id(last, last), id(last, last), 0},
	} {
		if got := Cmp(c.a, c.b); got != c.want {
			t.Errorf("Cmp(%v, %v) = %d, want %d", c.a, c.b, got, c.want)
		}
	}
}

// P1.2: of any two exactly one stands ahead, and places in the order agree with Cmp, so that it is transitive, too.
func TestCmpOrdersIds(t *testing.T) {
	l := rising()
	for i, a := range l {
		for k, b := range l {
			want := 0
			if i < k {
				want = -1
			} else if i > k {
				want = 1
			}
			if got := Cmp(a, b); got != want {
				t.Errorf("Cmp(%v, %v) = %d, want %d", a, b, got, want)
			}
			if Cmp(a, b) != -Cmp(b, a) {
				t.Errorf("Cmp(%v, %v) and Cmp(%v, %v) don't go together", a, b, b, a)
			}
		}
	}
}

// P1.2: sorting by Cmp gives the one order, whatever the order was at first.
func TestCmpSorts(t *testing.T) {
	want := rising()
	l := slices.Clone(want)
	slices.Reverse(l)
	slices.SortFunc(l, Cmp)
	if !slices.Equal(l, want) {
		t.Errorf("sorted: %v", l)
	}
}

// P1.1: Client 0 alone decides, at any Clock.
func TestNoneTellsWhetherClientIsZero(t *testing.T) {
	for _, a := range rising() {
		if got, want := None(a), a.Client == 0; got != want {
			t.Errorf("None(%v) = %v, want %v", a, got, want)
		}
	}
	if !None(api.Id{}) {
		t.Error("the zero Id is nothing's")
	}
}

// P1.1, R1 and R3: ordinary inputs, clocks at the limit, wrong inputs; the errors are the Codes themselves, beside the zero Id.
func TestAfter(t *testing.T) {
	for _, c := range []struct {
		name  string
		a     api.Id
		n     int
		limit uint32
		want  api.Id
		err   error
	}{
		{"the document's example", id(1, 3), 4, 9, id(1, 7), nil},
		{"no clock on", id(1, 3), 0, 9, id(1, 3), nil},
		{"from clock 0", id(7, 0), 1, 1, id(7, 1), nil},
		{"up to the limit", id(1, 3), 6, 9, id(1, 9), nil},
		{"above the limit by one", id(1, 3), 7, 9, api.Id{}, api.ErrClock},
		{"at the limit already", id(1, 3), 0, 3, id(1, 3), nil},
		{"above the limit already", id(1, 3), 0, 2, api.Id{}, api.ErrClock},
		{"limit 0, clock 0", id(1, 0), 0, 0, id(1, 0), nil},
		{"limit 0, one on", id(1, 0), 1, 0, api.Id{}, api.ErrClock},
		{"the last client", id(last, 3), 4, 9, id(last, 7), nil},
		{"the last clock", id(1, last-5), 5, last, id(1, last), nil},
		{"all clocks at once", id(1, 0), last, last, id(1, last), nil},
		{"beyond the last clock", id(1, last-5), 6, last, api.Id{}, api.ErrClock},
		{"a sum that wraps round 32 bits to below the limit", id(1, last), 1, 9, api.Id{}, api.ErrClock},
		{"an n that is 0 in 32 bits", id(1, 3), 1 << 32, last, api.Id{}, api.ErrClock},
		{"the greatest n", id(1, 0), math.MaxInt, last, api.Id{}, api.ErrClock},
		{"a sum that wraps round 64 bits with a sign", id(1, last), math.MaxInt, last, api.Id{}, api.ErrClock},
		{"the zero Id", api.Id{}, 0, 9, api.Id{}, api.ErrArg},
		{"nothing's", id(0, 3), 1, 9, api.Id{}, api.ErrArg},
		{"n below 0", id(1, 3), -1, 9, api.Id{}, api.ErrArg},
		{"the least n", id(1, 3), math.MinInt, 9, api.Id{}, api.ErrArg},
		{"nothing's, above the limit", id(0, 10), 1, 9, api.Id{}, api.ErrArg},
		{"n below 0, above the limit", id(1, 11), -1, 9, api.Id{}, api.ErrArg},
		{"nothing's, and n below 0", id(0, 3), -1, 9, api.Id{}, api.ErrArg},
	} {
		got, err := After(c.a, c.n, c.limit)
		if got != c.want || err != c.err {
			t.Errorf("%s: After(%v, %d, %d) = %v, %v, want %v, %v", c.name, c.a, c.n, c.limit, got, err, c.want, c.err)
		}
		var fault *api.Fault
		if errors.As(err, &fault) {
			t.Errorf("%s: the error is wrapped", c.name)
		}
	}
}

// afterByWords asks what P1.1 says, by numbers that no edge makes wrap round.
func afterByWords(a api.Id, n int, limit uint32) (api.Id, error) {
	if a.Client == 0 || n < 0 {
		return api.Id{}, api.ErrArg
	}
	if a.Clock > limit || n > int(limit-a.Clock) {
		return api.Id{}, api.ErrClock
	}
	return id(a.Client, a.Clock+uint32(n)), nil
}

// P1 and P1.1: no panic at any edge, and what is told is what the words say.
func TestAfterAtAllEdges(t *testing.T) {
	steps := []int{math.MinInt, -1, 0, 1, 2, math.MaxInt32, math.MaxInt32 + 1, last - 1, last, last + 1, math.MaxInt - 1, math.MaxInt}
	for _, a := range rising() {
		for _, n := range steps {
			for _, limit := range edges() {
				want, wantErr := afterByWords(a, n, limit)
				got, err := After(a, n, limit)
				if got != want || err != wantErr {
					t.Errorf("After(%v, %d, %d) = %v, %v, want %v, %v", a, n, limit, got, err, want, wantErr)
				}
			}
		}
	}
}
