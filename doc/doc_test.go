package doc

import (
	"math"
	"slices"
	"strings"
	"testing"
	"unicode/utf8"

	"surcingle/api"
	"surcingle/batch"
)

// far are numbers that are no place of n characters; the greatest ones would wrap round in a sum.
func far(n int) []int {
	return []int{-1, -2, math.MinInt32, math.MinInt, n + 1, n + 2, math.MaxInt32, math.MaxUint32, math.MaxInt - 1, math.MaxInt}
}

// bad are texts that aren't UTF-8.
func bad() []string {
	return []string{"\xff", "a\xff", "\xffa", "\x80", "ab\xc3", "\xc3a", "\xc0\x80", "\xed\xa0\x80", "\xf4\x90\x80\x80", "é\xa9", "\xe2\x82"}
}

// P11.1: New of client 0, of limits up to the greatest one, and above it.
func TestNew(t *testing.T) {
	for _, c := range []struct {
		client, limit uint32
		code          api.Code
	}{
		{0, 0, api.ErrArg},
		{0, 5, api.ErrArg},
		{0, last - 1, api.ErrArg},
		{0, last, api.ErrArg},
		{1, last, api.ErrArg},
		{last, last, api.ErrArg},
		{1, 0, 0},
		{1, last - 1, 0},
		{1, math.MaxInt32, 0},
		{1, math.MaxInt32 + 1, 0},
		{last, last - 1, 0},
		{last, 0, 0},
		{math.MaxInt32 + 1, 7, 0},
	} {
		d, err := New(c.client, c.limit)
		checkFault(t, err, "New", c.code)
		if (d == nil) != (c.code != 0) {
			t.Fatalf("New(%d, %d) = %v, %v", c.client, c.limit, d, err)
		}
		if c.code == 0 {
			x := open(t, c.client, c.limit)
			x.stands("", 0, 0)
			x.tells(nil)
		}
	}
}

// P11.1: an item of the greatest limit, and of the greatest client.
func TestGreatNumbers(t *testing.T) {
	x := open(t, last, last-1)
	x.insert(0, "ab")
	x.apply(told(t, run(id(last-1, 0), id(last, 0), id(last, 1), "c")))
	x.delete(0, 1)
	x.stands("cb", 3, 0, last-1, 1, last, 2)
	x.tells([]api.Run{run(id(last-1, 0), id(last, 0), id(last, 1), "c"), alone(last, 0, "ab")}, last, 0, 1)
}

// P11.1: at 0, between, at the end; what an item's Left and Right are; characters of several bytes count as one.
func TestInsert(t *testing.T) {
	x := open(t, 7, 100)
	if n := x.insert(0, "ad"); n != 1 {
		t.Fatal(n)
	}
	x.stands("ad", 1, 0, 7, 2)
	if n := x.insert(1, "é世"); n != 2 {
		t.Fatal(n)
	}
	x.stands("aé世d", 2, 0, 7, 4)
	x.insert(4, "🙂")
	x.insert(0, "\x00\uFFFD")
	x.insert(3, "z")
	x.stands("\x00\uFFFDazé世d🙂", 5, 0, 7, 8)
	x.tells([]api.Run{
		alone(7, 0, "ad"),
		run(id(7, 2), id(7, 0), id(7, 1), "é世"),
		run(id(7, 4), id(7, 1), api.Id{}, "🙂"),
		run(id(7, 5), api.Id{}, id(7, 0), "\x00\uFFFD"),
		run(id(7, 7), id(7, 0), id(7, 2), "z"),
	})
}

// P11.1: Left is the one ahead of the place that isn't deleted, Right the one right behind it, deleted or not.
func TestInsertAmongDeleted(t *testing.T) {
	x := open(t, 1, 100)
	x.insert(0, "abcd")
	x.delete(1, 2)
	x.insert(1, "x")
	x.insert(0, "y")
	x.stands("yaxd", 4, 0, 1, 6)
	x.delete(0, 4)
	x.insert(0, "z")
	x.stands("z", 6, 0, 1, 7)
	x.tells([]api.Run{
		alone(1, 0, "abcd"),
		run(id(1, 4), id(1, 0), id(1, 1), "x"),
		run(id(1, 5), api.Id{}, id(1, 0), "y"),
		run(id(1, 6), api.Id{}, id(1, 5), "z"),
	}, 1, 0, 6)
}

// P11.1 and P11.3: an empty text changes nothing, at each place.
func TestInsertNothing(t *testing.T) {
	x := open(t, 1, 1)
	x.insert(0, "")
	x.stands("", 0, 0)
	x.insert(0, "aé")
	for at := range 3 {
		if n := x.insert(at, ""); n != 1 {
			t.Fatalf("Insert(%d, nothing) = %d", at, n)
		}
	}
	x.stands("aé", 1, 0, 1, 2)
	for _, at := range far(2) {
		x.failsInsert(api.ErrRange, at, "")
	}
	x.close()
	x.failsInsert(api.ErrClosed, 0, "")
}

// P11.1: places that there aren't.
func TestInsertFarOff(t *testing.T) {
	x := open(t, 1, 100)
	for _, at := range far(0) {
		x.failsInsert(api.ErrRange, at, "x")
	}
	x.insert(0, "世é")
	x.insert(1, "abc")
	x.delete(1, 2)
	for _, at := range far(3) {
		x.failsInsert(api.ErrRange, at, "x")
		x.insert(at, "y")
	}
	x.stands("世cé", 3, 0, 1, 5)
}

// P11.1: texts that aren't UTF-8.
func TestInsertOfBadTexts(t *testing.T) {
	x := open(t, 1, 100)
	x.insert(0, "ab")
	for _, text := range bad() {
		for at := range 3 {
			x.failsInsert(api.ErrArg, at, text)
		}
	}
	x.stands("ab", 1, 0, 1, 2)
}

// P11.1: up to limit and one items of its own, deleted or not; those of others don't count.
func TestLimit(t *testing.T) {
	for limit := range uint32(6) {
		for ahead := range int(limit) + 2 {
			x := open(t, 3, limit)
			x.apply(told(t, alone(1, 0, "others")))
			x.insert(3, strings.Repeat("é", ahead))
			x.delete(3, ahead)
			room := int(limit) + 1 - ahead
			x.failsInsert(api.ErrClock, 0, strings.Repeat("é", room+1))
			x.failsInsert(api.ErrClock, 6, strings.Repeat("a", 1000))
			x.insert(6, strings.Repeat("世", room))
			if got := x.d.Vector(); nextOf(got, 3) != limit+1 {
				t.Fatalf("limit %d, %d ahead: the vector is %v", limit, ahead, got)
			}
			x.failsInsert(api.ErrClock, 0, "a")
			x.insert(0, "")
			x.delete(0, 1)
			x.apply(told(t, alone(2, 0, "more")))
		}
	}
}

// P11.1: the Id is deleted ahead of its item, that comes deleted; of such items only those whose Ids are.
func TestInsertOfDeletedIds(t *testing.T) {
	x := open(t, 1, 100)
	if n := x.apply(gone(t, 1, 1, 3, 1, 4, 5)); n != 1 {
		t.Fatal(n)
	}
	x.stands("", 1, 0)
	if n := x.insert(0, "abcdef"); n != 2 {
		t.Fatal(n)
	}
	x.stands("adf", 2, 0, 1, 6)
	x.tells([]api.Run{alone(1, 0, "abcdef")}, 1, 1, 3, 1, 4, 5)
	x.apply(gone(t, 1, 6, 9))
	// An item came, though the text is the same.
	if n := x.insert(2, "gh"); n != 4 {
		t.Fatal(n)
	}
	x.stands("adf", 4, 0, 1, 8)
	x.insert(2, "ij")
	x.stands("adjf", 5, 0, 1, 10)
	x.apply(gone(t, 1, 0, 20))
	x.stands("", 6, 0, 1, 10)
	x.insert(0, "k")
	x.stands("", 7, 0, 1, 11)
}

// P11.1: items that wait stay, though what they wait for comes; they come by the next Apply, whatever that has.
func TestInsertLeavesWhatWaits(t *testing.T) {
	x := open(t, 1, 100)
	x.apply(told(t, run(id(2, 0), id(1, 0), api.Id{}, "xy")))
	x.apply(told(t, run(id(3, 0), id(1, 1), api.Id{}, "z")))
	x.stands("", 2, 3)
	x.insert(0, "a")
	x.stands("a", 3, 3, 1, 1)
	if n := x.apply(told(t)); n != 4 {
		t.Fatal(n)
	}
	x.stands("axy", 4, 1, 1, 1, 2, 2)
	x.insert(3, "b")
	x.delete(0, 1)
	x.stands("xyb", 6, 1, 1, 2, 2, 2)
	x.apply(gone(t, 9, 0, 1))
	x.stands("xybz", 7, 0, 1, 2, 2, 2, 3, 1)
}

// P11.1: none, some, all; deleted ones between don't count.
func TestDelete(t *testing.T) {
	x := open(t, 1, 100)
	x.delete(0, 0)
	x.stands("", 0, 0)
	x.insert(0, "aé世d🙂")
	for at := range 6 {
		if n := x.delete(at, 0); n != 1 {
			t.Fatalf("Delete(%d, 0) = %d", at, n)
		}
	}
	if n := x.delete(1, 1); n != 2 {
		t.Fatal(n)
	}
	x.tells([]api.Run{alone(1, 0, "aé世d🙂")}, 1, 1, 2)
	x.delete(0, 2)
	x.stands("d🙂", 3, 0, 1, 5)
	x.tells([]api.Run{alone(1, 0, "aé世d🙂")}, 1, 0, 3)
	x.apply(told(t, run(id(2, 0), id(1, 3), id(1, 4), "xy")))
	x.delete(1, 2)
	x.stands("d🙂", 5, 0, 1, 5, 2, 2)
	x.delete(0, 2)
	x.stands("", 6, 0, 1, 5, 2, 2)
	x.tells([]api.Run{alone(1, 0, "aé世d🙂"), run(id(2, 0), id(1, 3), id(1, 4), "xy")}, 1, 0, 5, 2, 0, 2)
	x.delete(0, 0)
	x.failsDelete(api.ErrRange, 0, 1)
	x.stands("", 6, 0, 1, 5, 2, 2)
}

// P11.1: all places and numbers of a short text, and far ones.
func TestDeleteAtAllPlaces(t *testing.T) {
	for at := -1; at < 7; at++ {
		for n := -1; n < 7; n++ {
			x := open(t, 1, 100)
			x.insert(0, "abcdef")
			x.delete(2, 1)
			if at < 0 || n < 0 || at+n > 5 {
				x.failsDelete(api.ErrRange, at, n)
			}
			x.delete(at, n)
			if at >= 0 && n >= 0 && at+n <= 5 && x.d.Text() != "abdef"[:at]+"abdef"[at+n:] {
				t.Fatalf("Delete(%d, %d): %q", at, n, x.d.Text())
			}
		}
	}
	x := open(t, 1, 100)
	x.insert(0, "abc")
	for _, n := range far(3) {
		for at := range 4 {
			x.failsDelete(api.ErrRange, at, n)
		}
		for _, m := range []int{0, 1, math.MaxInt, math.MinInt} {
			x.failsDelete(api.ErrRange, n, m)
		}
	}
	x.stands("abc", 1, 0, 1, 3)
}

// P11.1: Delete doesn't let come what waits.
func TestDeleteLeavesWhatWaits(t *testing.T) {
	x := open(t, 1, 100)
	x.apply(told(t, run(id(2, 0), id(1, 0), api.Id{}, "x")))
	x.insert(0, "a")
	x.delete(0, 1)
	x.stands("", 3, 1, 1, 1)
	x.apply(told(t))
	x.stands("x", 4, 0, 1, 1, 2, 1)
}

// R1: of several errors the one that the promise names first.
func TestOfSeveralErrors(t *testing.T) {
	x := open(t, 1, 1)
	x.insert(0, "a")
	x.failsInsert(api.ErrArg, 9, "bcd\xff")
	x.failsInsert(api.ErrArg, -1, "\xff")
	x.failsInsert(api.ErrArg, 0, "bc\xff")
	x.failsInsert(api.ErrRange, 9, "bc")
	x.failsInsert(api.ErrRange, -1, "bcd")
	x.failsInsert(api.ErrClock, 0, "bc")
	text := strings.Repeat("x", 1001)
	x.failsApply(api.ErrMalformed, told(t, alone(1, 5, "x"), alone(2, 1, text)))
	x.failsApply(api.ErrMalformed, told(t, alone(1, 0, "b"), alone(2, 1, text)))
	x.failsApply(api.ErrFull, told(t, alone(1, 0, "a"), alone(2, 1, text)))
	x.stands("a", 1, 0, 1, 1)
	x.close()
	x.failsInsert(api.ErrClosed, 9, "bcd\xff")
	x.failsInsert(api.ErrClosed, 9, "bcd")
	x.failsInsert(api.ErrClosed, 0, "bcd")
	x.failsDelete(api.ErrClosed, -1, 9)
	x.failsApply(api.ErrClosed, []byte{9})
	x.failsApply(api.ErrClosed, told(t, alone(1, 5, "x")))
	x.failsApply(api.ErrClosed, told(t, alone(2, 1, text)))
	x.stands("a", 1, 0, 1, 1)
}

// P11.1 to P11.3: each call of a document that is closed; what it has is told as before.
func TestClosed(t *testing.T) {
	for _, write := range []func(x *both){
		func(x *both) {},
		func(x *both) { x.insert(0, "abc") },
		func(x *both) {
			x.insert(0, "abc")
			x.delete(1, 1)
			x.apply(told(t, alone(2, 0, "x"), alone(3, 1, "yz")))
			x.apply(gone(t, 3, 0, 2))
		},
	} {
		x := open(t, 1, 100)
		write(x)
		before := x.d.Since(nil)
		x.close()
		for range 2 {
			for _, at := range append(far(3), 0, 1) {
				x.failsInsert(api.ErrClosed, at, "a")
				x.failsInsert(api.ErrClosed, at, "")
				x.failsInsert(api.ErrClosed, at, "\xff")
				x.failsDelete(api.ErrClosed, at, 0)
				x.failsDelete(api.ErrClosed, 0, at)
			}
			for _, b := range [][]byte{nil, {0}, {0, 0}, told(t, alone(2, 0, "x")), told(t, alone(3, 0, "w")), told(t, alone(9, 0, "x")), gone(t, 1, 0, 1), put(t, before)} {
				x.failsApply(api.ErrClosed, b)
			}
			checkFault(t, x.d.Close(), "Close", api.ErrClosed)
			x.close()
		}
		if got := x.d.Since(nil); !sameBatch(got, before) {
			t.Fatalf("closed, it tells %v, want %v", got, before)
		}
	}
}

// P11.3: an error is told as new memory each time.
func TestFaultsAreNew(t *testing.T) {
	d := open(t, 1, 5).d
	calls := []func() error{
		func() error { _, err := New(0, 0); return err },
		func() error { _, err := d.Insert(9, "a"); return err },
		func() error { _, err := d.Delete(9, 0); return err },
		func() error { _, err := d.Apply(nil); return err },
	}
	for _, call := range calls {
		one, is := call().(*api.Fault)
		two, also := call().(*api.Fault)
		if !is || !also || one == two || *one != *two {
			t.Fatalf("%v, %v", one, two)
		}
		*one = api.Fault{}
		if three, is := call().(*api.Fault); !is || *three != *two {
			t.Fatalf("%v, %v", three, two)
		}
	}
}

// roomy has a list with room behind it, which an append to the list itself would write to.
func roomy[T any](l []T, spare T) []T {
	told := append(make([]T, 0, len(l)+8), l...)
	for range 8 {
		told = append(told, spare)
	}
	return told[:len(l)]
}

// whole has a list and the room behind it.
func whole[T any](l []T) []T { return l[:cap(l)] }

// spoil overwrites a list and the room behind it.
func spoil[T any](l []T, with T) {
	for i := range whole(l) {
		whole(l)[i] = with
	}
}

// P11.3: Since of vectors: none, the document's own, between, beyond, of clients that it hasn't.
func TestSince(t *testing.T) {
	x := open(t, 5, 100)
	x.insert(0, "abcd")
	x.insert(2, "é")
	x.apply(put(t, api.Batch{Runs: []api.Run{run(id(2, 0), id(5, 1), id(5, 4), "xyz"), alone(9, 0, "n"), alone(11, 3, "late")}, Deletes: spans(2, 1, 2, 11, 0, 9, 12, 3, 5)}))
	deletes := spans(2, 1, 2, 11, 0, 9, 12, 3, 5)
	two := run(id(2, 0), id(5, 1), id(5, 4), "xyz")
	one, other := alone(5, 0, "abcd"), run(id(5, 4), id(5, 1), id(5, 2), "é")
	nine := alone(9, 0, "n")
	for _, c := range []struct {
		v    []api.Clock
		want []api.Run
	}{
		{nil, []api.Run{two, one, other, nine}},
		{clocks(), []api.Run{two, one, other, nine}},
		{clocks(1, 7, 4, 1, 8, last, 12, 1), []api.Run{two, one, other, nine}},
		{clocks(2, 3, 5, 5, 9, 1), nil},
		{clocks(2, 3, 5, 6, 9, last), nil},
		{clocks(2, last, 5, last, 9, last, last, last), nil},
		{clocks(5, 5), []api.Run{two, nine}},
		{clocks(2, 1), []api.Run{run(id(2, 1), id(2, 0), id(5, 4), "yz"), one, other, nine}},
		{clocks(2, 2, 5, 1), []api.Run{run(id(2, 2), id(2, 1), id(5, 4), "z"), run(id(5, 1), id(5, 0), api.Id{}, "bcd"), other, nine}},
		{clocks(2, 3, 5, 3), []api.Run{run(id(5, 3), id(5, 2), api.Id{}, "d"), other, nine}},
		{clocks(2, 3, 5, 4), []api.Run{other, nine}},
		{clocks(2, 3, 5, 5), []api.Run{nine}},
		{clocks(9, 1, 11, 4), []api.Run{two, one, other}},
	} {
		got := x.d.Since(c.v)
		if !sameBatch(got, api.Batch{Runs: c.want, Deletes: deletes}) {
			t.Errorf("Since(%v) = %v, want %v", c.v, got, c.want)
		}
		if !batch.May(got) {
			t.Errorf("Since(%v) = %v, which may not be", c.v, got)
		}
		x.since(c.v)
	}
	x.check()
}

// P11.3, of which nothing is said of vectors that may not be (R4): the document goes on as it was.
func TestSinceOfWhatIsNoVector(t *testing.T) {
	x := open(t, 5, 100)
	x.insert(0, "abcd")
	x.apply(told(t, alone(2, 0, "xyz"), alone(9, 1, "n")))
	for _, v := range [][]api.Clock{clocks(5, 0), clocks(0, 5), clocks(5, 1, 5, 2), clocks(5, 2, 2, 1), clocks(9, 1, 5, 1, 2, 1, 0, 0), clocks(2, last, 2, 0)} {
		before := slices.Clone(v)
		x.d.Since(v)
		if !slices.Equal(v, before) {
			t.Fatalf("Since changes %v to %v", before, v)
		}
		x.check()
	}
	x.insert(2, "e")
	x.delete(0, 3)
	x.apply(told(t, alone(9, 0, "m")))
}

// P11.3: of all that a document is told, what it tells is what another one needs to have the same text.
func TestSinceIsEnough(t *testing.T) {
	x := open(t, 5, 100)
	x.insert(0, "abcdef")
	x.delete(1, 2)
	x.apply(told(t, run(id(2, 0), id(5, 1), id(5, 2), "xyz")))
	x.insert(3, "gh")
	for _, have := range []int{0, 1, 2, 4, 6, 7} {
		y := open(t, 6, 100)
		if have > 0 {
			y.apply(told(t, alone(5, 0, "abcdef"[:min(have, 6)])))
		}
		if have == 7 {
			y.apply(told(t, run(id(2, 0), id(5, 1), id(5, 2), "xyz")))
		}
		y.apply(put(t, x.d.Since(y.d.Vector())))
		if y.d.Text() != x.d.Text() || !slices.Equal(y.d.Vector(), x.d.Vector()) || y.d.Waiting() != 0 {
			t.Fatalf("%q, %v, want %q, %v", y.d.Text(), y.d.Vector(), x.d.Text(), x.d.Vector())
		}
	}
}

// P11.4 and R2: what is handed in stays, and isn't kept.
func TestWhatIsHandedIn(t *testing.T) {
	x := open(t, 5, 100)
	x.insert(0, "ab")
	for _, l := range []api.Batch{
		{Runs: []api.Run{run(id(2, 0), id(5, 0), id(5, 1), "xyé")}},
		{Runs: []api.Run{alone(3, 1, "wait")}},
		{Deletes: spans(2, 1, 2, 3, 0, 2, 7, 1, 5)},
		{Runs: []api.Run{alone(3, 0, "-"), run(id(4, 0), id(3, 2), id(3, 3), "q")}, Deletes: spans(3, 2, 4)},
		{Runs: []api.Run{alone(5, 7, "bad")}},
	} {
		b := roomy(put(t, l), 77)
		before := slices.Clone(whole(b))
		x.apply(b)
		if !slices.Equal(whole(b), before) {
			t.Fatalf("Apply changes its bytes: %v, %v", whole(b), before)
		}
		spoil(b, 99)
		x.check()
	}
	v := roomy(clocks(2, 1, 5, 1), api.Clock{Client: 77, Next: 77})
	before := slices.Clone(whole(v))
	x.d.Since(v)
	if !slices.Equal(whole(v), before) {
		t.Fatalf("Since changes its vector: %v, %v", whole(v), before)
	}
	spoil(v, api.Clock{Client: 99, Next: 99})
	x.check()
	bytes := []byte("inserted")
	x.insert(1, string(bytes))
	spoil(bytes, 'x')
	x.check()
}

// P11.4 and R2: what is told is new memory, no two lists of it the same.
func TestWhatIsTold(t *testing.T) {
	x := open(t, 5, 100)
	x.apply(put(t, api.Batch{Runs: []api.Run{alone(2, 0, "xyé"), alone(3, 1, "wait")}, Deletes: spans(2, 1, 2, 7, 1, 5)}))
	x.insert(0, "ab")
	x.delete(3, 1)
	for range 2 {
		spoil(x.d.Vector(), api.Clock{Client: 99, Next: 99})
		x.check()
		for _, v := range [][]api.Clock{nil, clocks(2, 1), x.w.vector()} {
			one, two := x.d.Since(v), x.d.Since(v)
			want := x.w.since(v)
			spoil(one.Runs, alone(99, 99, "spoilt"))
			spoil(one.Deletes, api.Span{Client: 99, From: 9, To: 99})
			if !sameBatch(two, want) {
				t.Fatalf("Since tells the same memory twice: %v", two)
			}
			x.check()
		}
		// What is kept must not have room that is handed out, either.
		x.insert(1, "c")
		x.delete(0, 1)
		x.apply(told(t, alone(3, 0, "-")))
	}
}

// P11.4: documents keep nothing in common.
func TestDocumentsApart(t *testing.T) {
	x, y := open(t, 1, 100), open(t, 1, 100)
	x.insert(0, "ab")
	y.stands("", 0, 0)
	y.insert(0, "cd")
	x.apply(put(t, api.Batch{Runs: []api.Run{alone(2, 0, "x"), alone(3, 1, "y")}, Deletes: spans(1, 0, 1, 4, 0, 1)}))
	y.stands("cd", 1, 0, 1, 2)
	y.tells([]api.Run{alone(1, 0, "cd")})
	x.close()
	y.insert(0, "e")
	x.check()
}

// P1: long texts and many calls end soon.
func TestLongTexts(t *testing.T) {
	d := open(t, 1, 1000000).d
	text := strings.Repeat("aé", 50000)
	if n, err := d.Insert(0, text); n != 1 || err != nil {
		t.Fatal(n, err)
	}
	if d.Text() != text || nextOf(d.Vector(), 1) != 100000 {
		t.Fatal("the text isn't what was put in")
	}
	if n, err := d.Delete(1, 99998); n != 2 || err != nil {
		t.Fatal(n, err)
	}
	want := "aé"
	for k := range 3000 {
		if _, err := d.Insert(1+k%utf8.RuneCountInString(want), "b"); err != nil {
			t.Fatal(err)
		}
		want = d.Text()
	}
	for range 1500 {
		if _, err := d.Delete(1, 2); err != nil {
			t.Fatal(err)
		}
	}
	if len(d.Text()) != len("aé") || d.Version() != 4502 {
		t.Fatal(d.Text(), d.Version())
	}
	x := d.Since(nil)
	if !batch.May(x) || len(itemsOf(x.Runs)) != 103000 {
		t.Fatal("Since doesn't tell all items")
	}
}
