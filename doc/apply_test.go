package doc

import (
	"bytes"
	"slices"
	"strings"
	"testing"

	"surcingle/api"
)

// P11.2: bytes that are no batch.
func TestApplyOfWhatIsNoBatch(t *testing.T) {
	x := open(t, 9, 100)
	x.insert(0, "ab")
	x.apply(told(t, alone(3, 1, "w")))
	good := put(t, api.Batch{Runs: []api.Run{alone(1, 0, "xé"), alone(3, 0, "v")}, Deletes: spans(9, 0, 1, 10, 4, 300)})
	for n := range good {
		x.failsApply(api.ErrMalformed, good[:n])
	}
	x.failsApply(api.ErrMalformed, append(slices.Clone(good), 0))
	for _, b := range [][]byte{nil, {}, {0}, {1}, {0, 0, 0}, {1, 0, 0}, {5, 0}, {0, 1, 0, 0, 0}, make([]byte, 20001), bytes.Repeat([]byte{255}, 300)} {
		x.failsApply(api.ErrMalformed, b)
	}
	x.stands("ab", 2, 1, 9, 2)
	x.apply(good)
	x.stands("xévwb", 3, 0, 1, 2, 3, 2, 9, 2)
	// The last character of it is no UTF-8 any more.
	good[bytes.IndexByte(good, 'x')+2]++
	good[bytes.IndexByte(good, 'x')+1] = 'z'
	x.failsApply(api.ErrMalformed, good)
}

// P11.2: a batch of as many bytes as there may be, and one of a byte more.
func TestApplyOfManyBytes(t *testing.T) {
	text := strings.Repeat("a", 19980)
	b := told(t, alone(1, 0, text))
	for len(b) < api.MaxBatch {
		text += "a"
		b = told(t, alone(1, 0, text))
	}
	d := open(t, 9, 100).d
	if n, err := d.Apply(b); n != 1 || err != nil || d.Text() != text {
		t.Fatal(n, err)
	}
	b = append(b, 'a')
	// One more in the text, and one more byte that it has.
	b[slices.Index(b, 'a')-1]++
	n, err := d.Apply(b)
	checkFault(t, err, "Apply", api.ErrMalformed)
	if n != 0 || d.Text() != text || d.Version() != 1 {
		t.Fatal(n, d.Version())
	}
}

// P11.2 and P11.3: a batch of nothing, and one that has been applied already, change nothing.
func TestApplyAgain(t *testing.T) {
	x := open(t, 9, 100)
	x.apply(told(t))
	x.stands("", 0, 0)
	x.insert(0, "ab")
	l := [][]byte{
		told(t, run(id(1, 0), id(9, 0), id(9, 1), "xy")),
		told(t, alone(2, 1, "w")),
		gone(t, 1, 0, 1, 5, 3, 9),
		put(t, api.Batch{Runs: []api.Run{run(id(1, 0), id(9, 0), id(9, 1), "xyz"), alone(3, 2, "v")}, Deletes: spans(5, 2, 4)}),
		told(t),
	}
	versions := []int{2, 3, 4, 5, 5}
	for i, b := range l {
		for range 3 {
			if n := x.apply(b); n != versions[i] {
				t.Fatalf("batch %d: version %d", i, n)
			}
		}
	}
	x.stands("ayzb", 5, 2, 1, 3, 9, 2)
	eachOrder(l, func(l [][]byte) {
		for _, b := range l {
			if n := x.apply(b); n != 5 {
				t.Fatalf("version %d", n)
			}
		}
	})
	x.apply(put(t, x.d.Since(nil)))
	x.stands("ayzb", 5, 2, 1, 3, 9, 2)
}

// P11.2: items of the document's own client: such as its list has, such as it hasn't, one of its Ids that is another one.
func TestApplyOfOwnItems(t *testing.T) {
	x := open(t, 2, 100)
	for _, r := range []api.Run{alone(2, 0, "x"), alone(2, 1, "x"), alone(2, last-2, "x"), run(id(2, 0), id(1, 0), api.Id{}, "x")} {
		x.failsApply(api.ErrMalformed, told(t, r))
		x.failsApply(api.ErrMalformed, told(t, alone(1, 0, "o"), r))
		x.failsApply(api.ErrMalformed, told(t, r, alone(3, 0, "o")))
	}
	x.insert(0, "abc")
	x.insert(1, "d")
	for _, r := range []api.Run{alone(2, 0, "abc"), alone(2, 0, "ab"), run(id(2, 1), id(2, 0), api.Id{}, "bc"), run(id(2, 3), id(2, 0), id(2, 1), "d")} {
		if n := x.apply(told(t, r)); n != 2 {
			t.Fatalf("%v: version %d", r, n)
		}
	}
	for _, r := range []api.Run{
		alone(2, 0, "abcd"),
		alone(2, 0, "b"),
		alone(2, 0, "abd"),
		run(id(2, 0), id(2, 0), api.Id{}, "a"),
		run(id(2, 0), id(1, 0), api.Id{}, "a"),
		run(id(2, 0), id(0, 1), api.Id{}, "a"),
		run(id(2, 0), api.Id{}, id(0, 1), "a"),
		run(id(2, 0), api.Id{}, id(2, 1), "a"),
		run(id(2, 3), id(2, 0), id(2, 1), "dx"),
		run(id(2, 4), id(2, 3), id(2, 1), "x"),
		run(id(2, 3), id(2, 0), id(2, 1), "e"),
		run(id(2, 3), id(2, 0), id(2, 2), "d"),
		run(id(2, 3), id(2, 1), id(2, 1), "d"),
	} {
		x.failsApply(api.ErrMalformed, told(t, r))
		x.failsApply(api.ErrMalformed, put(t, api.Batch{Runs: []api.Run{alone(1, 0, "o"), r}, Deletes: spans(2, 0, 1)}))
	}
	x.stands("adbc", 2, 0, 2, 4)
	// Deleted ones are the document's items as well.
	x.delete(0, 2)
	x.apply(told(t, alone(2, 0, "abc")))
	x.failsApply(api.ErrMalformed, told(t, alone(2, 0, "zbc")))
	x.stands("bc", 3, 0, 2, 4)
}

// unlike has runs of one item that are r's in all fields but one.
func unlike(r api.Run) []api.Run {
	var l []api.Run
	for _, change := range []func(r *api.Run){
		func(r *api.Run) { r.Text = "!" },
		func(r *api.Run) { r.Left.Client++ },
		func(r *api.Run) { r.Left.Clock++ },
		func(r *api.Run) { r.Right.Client++ },
		func(r *api.Run) { r.Right.Clock++ },
	} {
		other := r
		change(&other)
		l = append(l, other)
	}
	return l
}

// P11.2: another item of an Id that the list has, or that waits, unlike in one field; nothing else of such a batch is done.
func TestApplyOfOtherItems(t *testing.T) {
	x := open(t, 9, 100)
	x.insert(0, "ab")
	has := []api.Run{alone(1, 0, "x"), run(id(1, 1), id(1, 0), id(9, 1), "y"), run(id(3, 0), id(9, 0), id(9, 1), "z"), run(id(4, 0), id(0, 3), id(0, 4), "u")}
	waits := []api.Run{alone(1, 3, "v"), run(id(5, 0), id(1, 3), id(6, 7), "w"), run(id(7, 2), id(0, 3), id(0, 4), "t")}
	x.apply(told(t, has...))
	x.apply(told(t, waits...))
	text, rest := x.d.Text(), api.Batch{Runs: []api.Run{alone(2, 0, "n")}, Deletes: spans(1, 0, 2)}
	for _, r := range slices.Concat(has, waits) {
		x.apply(told(t, r))
		for _, other := range unlike(r) {
			x.failsApply(api.ErrMalformed, told(t, other))
			with := api.Batch{Runs: append([]api.Run{other}, rest.Runs...), Deletes: rest.Deletes}
			slices.SortFunc(with.Runs, func(a, b api.Run) int { return rises(a.Id, b.Id) })
			x.failsApply(api.ErrMalformed, put(t, with))
		}
	}
	x.stands(text, 3, 3, 1, 2, 3, 1, 4, 1, 9, 2)
	// One that waits is held against what is told as long as it waits, and when it has come.
	x.apply(told(t, run(id(1, 2), id(1, 1), id(9, 1), "c")))
	for _, r := range slices.Concat(has, waits) {
		x.apply(told(t, r))
		for _, other := range unlike(r) {
			x.failsApply(api.ErrMalformed, told(t, other))
		}
	}
	x.apply(put(t, rest))
}

// P11.2: the list's item has another Left in the middle of a run.
func TestApplyOfRunsThatDiffer(t *testing.T) {
	x := open(t, 9, 100)
	x.apply(told(t, alone(1, 0, "ab"), run(id(1, 2), id(1, 0), id(1, 1), "c"), alone(2, 1, "de"), alone(2, 3, "f")))
	x.stands("acb", 1, 3, 1, 3)
	x.failsApply(api.ErrMalformed, told(t, alone(1, 0, "abc")))
	x.failsApply(api.ErrMalformed, told(t, alone(2, 1, "def")))
	x.failsApply(api.ErrMalformed, told(t, alone(2, 0, "xdef")))
	x.apply(told(t, alone(2, 0, "x"), alone(2, 1, "de"), alone(2, 3, "fgh")))
	x.stands("acbxdefgh", 2, 0, 1, 3, 2, 6)
}

// P11.2 and P11.3: items that come out of order wait, and come with a later batch, all that are ready by it.
func TestOutOfOrder(t *testing.T) {
	x := open(t, 9, 100)
	x.apply(told(t, run(id(2, 0), id(1, 1), id(1, 2), "x")))
	x.apply(told(t, run(id(1, 2), id(1, 1), api.Id{}, "c")))
	x.apply(told(t, run(id(3, 1), id(3, 0), api.Id{}, "z")))
	x.apply(told(t, run(id(1, 1), id(1, 0), api.Id{}, "b")))
	x.stands("", 4, 4)
	// All that is still to come of client 1 comes by this one.
	x.apply(told(t, alone(1, 0, "a")))
	x.stands("abxc", 5, 1, 1, 3, 2, 1)
	// One that waits behind its own client's next one; nothing comes.
	x.apply(told(t, run(id(3, 2), id(2, 0), id(1, 2), "y")))
	x.stands("abxc", 6, 2, 1, 3, 2, 1)
	x.apply(told(t, run(id(3, 0), id(1, 0), id(1, 1), "w")))
	x.stands("awzbxyc", 7, 0, 1, 3, 2, 1, 3, 3)
}

// P11.2: items that can never come wait on; whatever else comes doesn't need them.
func TestItemsThatNeverCome(t *testing.T) {
	x := open(t, 9, 3)
	x.apply(told(t, run(id(1, 0), id(1, 0), api.Id{}, "s"), run(id(2, 0), api.Id{}, id(3, 0), "p"), run(id(3, 0), api.Id{}, id(2, 0), "q"), run(id(4, 0), id(9, 4), api.Id{}, "f"), alone(5, last-1, "l")))
	x.insert(0, "abcd")
	x.apply(told(t, alone(6, 0, "x")))
	x.stands("xabcd", 3, 5, 6, 1, 9, 4)
	x.apply(gone(t, 1, 0, 1, 5, last-1, last, 9, 0, 2))
	x.stands("xcd", 4, 5, 6, 1, 9, 4)
}

// P11.2: an Id that is deleted ahead of its item: it comes deleted, by the same batch, a later one, or from among those that wait.
func TestDeletedAheadOfItsItem(t *testing.T) {
	x := open(t, 9, 100)
	if n := x.apply(gone(t, 1, 1, 3, 2, 0, 1)); n != 1 {
		t.Fatal(n)
	}
	x.stands("", 1, 0)
	x.apply(gone(t, 1, 1, 2))
	x.stands("", 1, 0)
	x.apply(told(t, alone(1, 0, "abcd")))
	x.stands("ad", 2, 0, 1, 4)
	x.tells([]api.Run{alone(1, 0, "abcd")}, 1, 1, 3, 2, 0, 1)
	x.apply(put(t, api.Batch{Runs: []api.Run{alone(3, 0, "xy"), alone(4, 1, "w")}, Deletes: spans(3, 1, 2, 4, 1, 2)}))
	x.stands("adx", 3, 1, 1, 4, 3, 2)
	x.apply(told(t, run(id(2, 0), id(1, 1), id(1, 2), "g"), run(id(4, 0), id(1, 0), id(1, 1), "v")))
	x.stands("avdx", 4, 0, 1, 4, 2, 1, 3, 2, 4, 2)
	x.tells([]api.Run{alone(1, 0, "abcd"), run(id(2, 0), id(1, 1), id(1, 2), "g"), alone(3, 0, "xy"), run(id(4, 0), id(1, 0), id(1, 1), "v"), alone(4, 1, "w")}, 1, 1, 3, 2, 0, 1, 3, 1, 2, 4, 1, 2)
	// Deleted while it waits.
	x.apply(told(t, run(id(5, 1), id(5, 0), api.Id{}, "ij")))
	x.apply(gone(t, 5, 2, 3))
	x.apply(told(t, alone(5, 0, "h")))
	x.check()
	if !strings.Contains(x.d.Text(), "hi") || strings.Contains(x.d.Text(), "j") {
		t.Fatal(x.d.Text())
	}
}

// P11.2 and P11.3: Deletes of items that are there, some of them, none of them new; the version goes on only by new ones.
func TestApplyOfDeletes(t *testing.T) {
	x := open(t, 9, 100)
	x.insert(0, "abcdef")
	x.apply(told(t, run(id(1, 0), id(9, 2), id(9, 3), "xyz")))
	if n := x.apply(gone(t, 9, 1, 3)); n != 3 {
		t.Fatal(n)
	}
	x.stands("axyzdef", 3, 0, 1, 3, 9, 6)
	for _, b := range [][]byte{gone(t, 9, 1, 3), gone(t, 9, 1, 2), gone(t, 9, 2, 3)} {
		if n := x.apply(b); n != 3 {
			t.Fatal(n)
		}
	}
	x.apply(gone(t, 9, 0, 4))
	x.stands("xyzef", 4, 0, 1, 3, 9, 6)
	x.delete(1, 1)
	x.apply(gone(t, 1, 1, 2))
	x.stands("xzef", 5, 0, 1, 3, 9, 6)
	x.apply(gone(t, 1, 0, 3, 9, 2, 5))
	x.stands("f", 6, 0, 1, 3, 9, 6)
	x.apply(gone(t, 1, 2, 5, 9, 5, 6))
	x.stands("", 7, 0, 1, 3, 9, 6)
	x.tells([]api.Run{run(id(1, 0), id(9, 2), id(9, 3), "xyz"), alone(9, 0, "abcdef")}, 1, 0, 5, 9, 0, 6)
}

// P1 and P11.2: spans of nearly all clocks, of clients that there are and of others, again and again.
func TestLongSpans(t *testing.T) {
	x := open(t, 9, 100)
	x.insert(0, "ab")
	x.apply(told(t, run(id(1, 0), id(9, 0), id(9, 1), "xy"), alone(2, 5, "z")))
	d := x.d
	for i, c := range []struct {
		deletes []api.Span
		text    string
		version int
	}{
		{spans(4, 0, last), "axyb", 3},
		{spans(4, 0, last), "axyb", 3},
		{spans(4, 5, 6, 4, 9, last), "axyb", 3},
		{spans(1, 1, last), "axb", 4},
		{spans(1, 2, 3, 1, 7, last-1), "axb", 4},
		{spans(1, 0, last), "ab", 5},
		{spans(1, 0, last, 2, last-1, last, 4, 0, last, last, 0, last), "ab", 6},
		{spans(1, 0, last, 2, 1, last, 9, 1, last), "a", 7},
		{spans(1, 0, last, 2, 1, last, 9, 1, last), "a", 7},
		{spans(9, 1, last-1), "a", 7},
		{spans(9, 0, last), "", 8},
	} {
		n, err := d.Apply(put(t, api.Batch{Deletes: c.deletes}))
		if n != c.version || err != nil || d.Text() != c.text {
			t.Fatalf("%d: %d, %v, %q", i, n, err, d.Text())
		}
	}
	if want := spans(1, 0, last, 2, 1, last, 4, 0, last, 9, 0, last, last, 0, last); !slices.Equal(d.Since(nil).Deletes, want) {
		t.Fatalf("deleted: %v", d.Since(nil).Deletes)
	}
	if n, err := d.Apply(told(t, alone(2, 0, "uvwxy"))); n != 9 || err != nil || d.Text() != "u" || d.Waiting() != 0 {
		t.Fatal(n, err, d.Text(), d.Waiting())
	}
}

// waiting has a document among whose items n wait, all behind the first one of client 1.
func waiting(t *testing.T, n int) *both {
	t.Helper()
	x := open(t, 9, 100)
	x.insert(0, "ab")
	if n > 0 {
		x.apply(told(t, run(id(1, 1), id(1, 0), api.Id{}, strings.Repeat("w", n))))
	}
	return x
}

// P11.2: as many as may wait, and one more, at once.
func TestAsManyAsMayWait(t *testing.T) {
	x := waiting(t, 0)
	x.failsApply(api.ErrFull, told(t, run(id(1, 1), id(1, 0), api.Id{}, strings.Repeat("w", 1001))))
	x.failsApply(api.ErrFull, put(t, api.Batch{Runs: []api.Run{alone(2, 0, "x"), run(id(3, 1), id(3, 0), api.Id{}, strings.Repeat("w", 5000))}, Deletes: spans(3, 0, 9, 9, 0, 1)}))
	x.stands("ab", 1, 0, 9, 2)
	x.tells([]api.Run{alone(9, 0, "ab")})
	x.apply(told(t, run(id(1, 1), id(1, 0), api.Id{}, strings.Repeat("w", 1000))))
	x.stands("ab", 2, 1000, 9, 2)
}

// P11.2: one more where as many wait as may: it is told where others come, where it waits already, and where it comes itself; else nothing of the batch is done.
func TestOneMoreThanMayWait(t *testing.T) {
	x := waiting(t, 1000)
	if n := x.apply(told(t, run(id(1, 1), id(1, 0), api.Id{}, strings.Repeat("w", 1000)))); n != 2 {
		t.Fatal(n)
	}
	for _, b := range [][]byte{
		told(t, alone(2, 1, "x")),
		told(t, run(id(1, 1), id(1, 0), api.Id{}, strings.Repeat("w", 1001))),
		put(t, api.Batch{Runs: []api.Run{alone(2, 0, "x"), alone(2, 2, "y")}, Deletes: spans(9, 0, 1)}),
		put(t, api.Batch{Runs: []api.Run{alone(2, 1, "x")}, Deletes: spans(1, 0, 5)}),
	} {
		x.failsApply(api.ErrFull, b)
	}
	x.stands("ab", 2, 1000, 9, 2)
	x.tells([]api.Run{alone(9, 0, "ab")})
	x.apply(put(t, api.Batch{Runs: []api.Run{alone(2, 0, "x")}, Deletes: spans(9, 1, 2)}))
	x.stands("xa", 3, 1000, 2, 1, 9, 2)
	x.insert(2, "c")
	x.delete(0, 1)
	x.stands("ac", 5, 1000, 2, 1, 9, 3)
	// The first one of client 1 lets all of them come; 1000 others wait.
	x.apply(told(t, alone(1, 0, "-"), run(id(2, 2), id(2, 1), api.Id{}, strings.Repeat("v", 1000))))
	if x.d.Waiting() != 1000 || nextOf(x.d.Vector(), 1) != 1001 || !strings.HasPrefix(x.d.Text(), "-"+strings.Repeat("w", 1000)) {
		t.Fatal(x.d.Waiting(), x.d.Vector())
	}
	x.failsApply(api.ErrFull, told(t, alone(3, 1, "x")))
	x.apply(told(t, alone(2, 1, "-")))
	x.stands(x.d.Text(), 7, 0, 1, 1001, 2, 1002, 9, 3)
}

// P11.2: what counts is how many wait then: one that comes makes room for one that waits, not for two.
func TestRoomThatIsMade(t *testing.T) {
	x := waiting(t, 999)
	// By an item of its own one of those that wait is ready, but it waits on until the next Apply.
	x.apply(told(t, run(id(3, 0), id(9, 2), api.Id{}, "z")))
	x.insert(2, "c")
	x.stands("abc", 4, 1000, 9, 3)
	x.failsApply(api.ErrFull, told(t, alone(4, 1, "x"), alone(5, 1, "y")))
	x.stands("abc", 4, 1000, 9, 3)
	x.apply(told(t, alone(4, 1, "x")))
	x.stands("abcz", 5, 1000, 3, 1, 9, 3)
	x.failsApply(api.ErrFull, told(t, alone(5, 1, "y")))
	x.apply(told(t, alone(4, 0, "v"), alone(5, 1, "y")))
	if x.d.Waiting() != 1000 || x.d.Version() != 6 {
		t.Fatal(x.d.Waiting(), x.d.Version())
	}
}

// set has the Ids of small sets: each of some clocks of two clients, in or out.
func set(bits int) []api.Span {
	var l []api.Span
	for k := range 10 {
		if bits>>k&1 == 0 {
			continue
		}
		client, clock := uint32(1+k/5), uint32(k%5)
		if n := len(l) - 1; n >= 0 && l[n].Client == client && l[n].To == clock {
			l[n].To++
		} else {
			l = append(l, api.Span{Client: client, From: clock, To: clock + 1})
		}
	}
	return l
}

// P11.2: what is newly deleted, of all pairs of small sets.
func TestWithout(t *testing.T) {
	for a := range 1 << 10 {
		for b := range 1 << 10 {
			if got, want := without(set(a), set(b)), set(a&^b); !slices.Equal(got, want) {
				t.Fatalf("without(%v, %v) = %v, want %v", set(a), set(b), got, want)
			}
		}
	}
	for _, c := range [][3][]api.Span{
		{spans(1, 0, last), spans(1, 5, last), spans(1, 0, 5)},
		{spans(1, 5, last), spans(1, 0, last-1), spans(1, last-1, last)},
		{spans(last, 0, last), spans(last, 3, 4, last, last-2, last-1), spans(last, 0, 3, last, 4, last-2, last, last-1, last)},
		{spans(1, 1<<31-1, 1<<31+1), spans(1, 1<<31, 1<<31+5), spans(1, 1<<31-1, 1<<31)},
		{spans(1<<31, 0, 1), spans(1, 0, 1), spans(1<<31, 0, 1)},
	} {
		if got := without(c[0], c[1]); !slices.Equal(got, c[2]) {
			t.Errorf("without(%v, %v) = %v, want %v", c[0], c[1], got, c[2])
		}
	}
}

// P1: many batches, long ones, and of many clients, end soon.
func TestManyBatches(t *testing.T) {
	x, y := open(t, 1, 1000000).d, open(t, 2, 1000000).d
	call := func(n int, err error) {
		t.Helper()
		if err != nil {
			t.Fatal(n, err)
		}
	}
	for k := range 60 {
		call(x.Insert(17*k%(len(x.Text())+1), strings.Repeat("a", 100)))
		call(y.Apply(put(t, x.Since(y.Vector()))))
		call(y.Insert(23*k%(len(y.Text())+1), strings.Repeat("b", 100)))
		call(y.Delete(5*k, 30))
		call(x.Apply(put(t, y.Since(x.Vector()))))
	}
	if x.Text() != y.Text() || len(x.Text()) != 60*170 || x.Waiting()+y.Waiting() != 0 {
		t.Fatal(len(x.Text()), len(y.Text()))
	}
	var many []api.Run
	for client := range uint32(1000) {
		many = append(many, alone(client+3, 0, "x"))
	}
	call(x.Apply(told(t, many...)))
	call(y.Apply(told(t, many...)))
	var deletes []api.Span
	for clock := range uint32(1400) {
		deletes = append(deletes, api.Span{Client: 2000, From: 2 * clock, To: 2*clock + 1})
	}
	for range 300 {
		call(x.Apply(put(t, api.Batch{Deletes: deletes})))
	}
	if len(x.Vector()) != 1002 || x.Version() != 122 {
		t.Fatal(len(x.Vector()), x.Version())
	}
}
