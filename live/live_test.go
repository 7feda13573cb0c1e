package live

import (
	"errors"
	"math"
	"strings"
	"testing"

	"surcingle/api"
)

// P14.1, R1, R3: layer 11's error, a Fault, is ahead of layer 13's, a Code itself; with both no shared document is told.
func TestNew(t *testing.T) {
	rooms := []int{0, 1, 2, 999, 1000, 1001, -1, -1000, 1 << 32, 1<<32 + 1, math.MinInt, math.MinInt + 1, math.MaxInt}
	for _, client := range []uint32{0, 1, 2, 1 << 31, math.MaxUint32} {
		for _, limit := range []uint32{0, 1, 1 << 31, lastLimit - 1, lastLimit, math.MaxUint32} {
			for _, room := range rooms {
				checkNew(t, client, limit, room)
			}
		}
	}
}

func checkNew(t *testing.T, client, limit uint32, room int) {
	t.Helper()
	s, err := New(client, limit, room)
	var f *api.Fault
	switch {
	case client == 0 || limit > lastLimit:
		if s != nil || !errors.As(err, &f) || *f != (api.Fault{Op: "New", Code: api.ErrArg}) || !errors.Is(err, api.ErrArg) {
			t.Fatalf("New(%d, %d, %d) = %v, %v, want layer 11's error", client, limit, room, s, err)
		}
	case room < 1 || room > 1000:
		if s != nil || err != api.ErrArg || errors.As(err, &f) {
			t.Fatalf("New(%d, %d, %d) = %v, %v, want layer 13's error", client, limit, room, s, err)
		}
	default:
		x := fresh(t, client, limit, room)
		x.tells(op(api.Snapshot), api.Reply{})
		x.tells(op(api.Vector), api.Reply{})
		x.tells(drain(1), code(api.ErrRange))
		x.tells(insert(0, "é"), version(1))
		x.tells(op(api.Vector), api.Reply{Version: 1, Clocks: clocks(client, 1)})
	}
}

// P14.1: the document's example.
func TestExample(t *testing.T) {
	x := fresh(t, 1, 1000, 1)
	x.tells(insert(0, "a"), version(1))
	x.tells(op(api.Snapshot), text(1, "a"))
}

// P14.1: each Op tells what is its own, and nothing else.
func TestEachOp(t *testing.T) {
	x := fresh(t, 1, 1000, 3)
	x.tells(insert(0, "aé"), version(1))
	x.tells(op(api.Subscribe), sub(1, 1, "aé"))
	x.tells(insert(1, "世"), version(2))
	x.tells(del(0, 1), version(3))
	x.tells(remote(told(t, alone(7, 0, "zz"))), version(4))
	x.tells(op(api.Subscribe), sub(2, 4, "世ézz"))
	x.tells(op(api.Snapshot), text(4, "世ézz"))
	x.tells(op(api.Vector), api.Reply{Version: 4, Clocks: clocks(1, 3, 7, 2)})
	x.tells(drain(1), drained(4, changed(2, 1, 0, "世"), changed(3, 0, 1, ""), changed(4, 2, 0, "zz")))
	x.tells(drain(2), drained(4))
	x.tells(op(api.Close), version(4))
	x.stands()
}

// P14.1: what an Op has no use of is as if it weren't there.
func TestOtherFieldsSayNothing(t *testing.T) {
	for n := api.Insert; n <= api.Close; n++ {
		x, y := fresh(t, 1, 9, 2), fresh(t, 1, 9, 2)
		for _, z := range []*both{x, y} {
			z.do(insert(0, "abc"))
			z.do(op(api.Subscribe))
			z.do(del(0, 1))
		}
		plain := api.Call{Op: n}
		full := api.Call{Op: n, At: -5, N: -5, Text: "\xff", Bytes: []byte{9, 9}}
		switch n {
		case api.Insert:
			plain.At, plain.Text = 1, "x"
			full.At, full.Text = 1, "x"
		case api.Delete:
			plain.At, plain.N = 1, 1
			full.At, full.N = 1, 1
		case api.Remote:
			plain.Bytes = told(t, alone(4, 0, "d"))
			full.Bytes = plain.Bytes
		case api.Drain:
			plain.N, full.N = 1, 1
		}
		a, b := x.do(plain), y.do(full)
		if !sameReply(a, b) || a.Code != 0 {
			t.Errorf("Op %d: %+v, and with other fields %+v", n, a, b)
		}
		x.stands()
		y.stands()
	}
}

// noOps are numbers of no Op.
func noOps() []int {
	return []int{
		0, 9, -1, -2, -8, 10, 11, 100, 1 << 8, 1<<8 + 1, 1<<16 + 4, 1<<31 - 1, 1 << 31, 1 << 32, 1<<32 + 1, 1<<32 + 8,
		-1<<32 + 4, math.MinInt, math.MinInt + 1, math.MaxInt - 1, math.MaxInt,
	}
}

// P14.1: another Op is ErrArg, ahead of Close and behind it, whatever else the call says.
func TestOtherOps(t *testing.T) {
	x := fresh(t, 1, 100, 2)
	x.do(insert(0, "ab"))
	x.do(op(api.Subscribe))
	x.do(insert(1, "é"))
	for _, closed := range []bool{false, true} {
		if closed {
			x.do(op(api.Close))
		}
		for _, n := range noOps() {
			for _, c := range []api.Call{{}, {At: 1, N: 1, Text: "x"}, {At: -1, N: -1, Text: "\xff"}, {N: 1, Bytes: told(t, alone(3, 0, "y"))}} {
				c.Op = n
				x.fails(c, api.ErrArg)
			}
		}
	}
	x.tells(drain(1), drained(2, changed(2, 1, 0, "é")))
}

// far are numbers that are no place of n characters; the greatest ones would wrap round in a sum.
func far(n int) []int {
	return []int{-1, -2, math.MinInt32, math.MinInt, n + 1, n + 2, math.MaxInt32, math.MaxUint32, math.MaxInt - 1, math.MaxInt}
}

// wrong has a document that is watched, with a limit of 9 and five items of its own, of which one is deleted.
func wrong(t *testing.T) *both {
	x := fresh(t, 1, 9, 5)
	x.do(insert(0, "abcdé"))
	x.do(op(api.Subscribe))
	x.do(del(1, 1))
	return x
}

// stillWatched asks that nothing was pushed of what was refused, and that the next change is.
func (x *both) stillWatched() {
	x.t.Helper()
	x.tells(drain(1), drained(2, changed(2, 1, 1, "")))
	x.tells(insert(4, "f"), version(3))
	x.tells(drain(1), drained(3, changed(3, 4, 0, "f")))
}

// P14.1, R1, R3, T5: each error of Insert, ahead of those named behind it.
func TestInsertRefused(t *testing.T) {
	x := wrong(t)
	for _, s := range []string{"\xff", "a\xc3", "\x80b", "\xed\xa0\x80", "\xc0\x80", strings.Repeat("a", 20) + "\xff"} {
		for _, at := range append(far(4), 0, 2, 4) {
			x.fails(insert(at, s), api.ErrArg)
		}
	}
	for _, at := range far(4) {
		for _, s := range []string{"", "x", "é世", strings.Repeat("x", 6), strings.Repeat("x", 500)} {
			x.fails(insert(at, s), api.ErrRange)
		}
	}
	for _, s := range []string{"123456", "éééééé", strings.Repeat("x", 500)} {
		for at := range 5 {
			x.fails(insert(at, s), api.ErrClock)
		}
	}
	x.stillWatched()
	x.tells(insert(0, "wxyz"), version(4))
	x.fails(insert(0, "!"), api.ErrClock)
	x.tells(insert(9, ""), version(4))
}

// P14.1, R3, T5: each error of Delete.
func TestDeleteRefused(t *testing.T) {
	x := wrong(t)
	for at := range 5 {
		for _, n := range far(4 - at) {
			x.fails(del(at, n), api.ErrRange)
		}
	}
	for _, at := range far(4) {
		for _, n := range append(far(0), 0, 1, 4) {
			x.fails(del(at, n), api.ErrRange)
		}
	}
	x.stillWatched()
}

// P14.1, R3, T5: what Remote finds malformed, of bytes and of what is known.
func TestRemoteMalformed(t *testing.T) {
	x := wrong(t)
	good := told(t, alone(1, 0, "a"))
	bad := [][]byte{
		nil, {}, {0}, {1}, {255}, {9, 9, 9}, good[:len(good)-1], append(good[:len(good):len(good)], 0),
		told(t, alone(1, 5, "f")), told(t, alone(1, 0, "x")), told(t, alone(1, 1, "b")),
		told(t, alone(1, 0, "a"), alone(1, 9, "a")), told(t, alone(1, 6, "z"), alone(3, 0, "new"), alone(4, 0, "n")),
		[]byte(strings.Repeat("\xff", api.MaxBatch)), make([]byte, api.MaxBatch+1),
	}
	for _, b := range bad {
		x.fails(remote(b), api.ErrMalformed)
	}
	x.tells(remote(good), version(2))
	x.stillWatched()
}

// P14.1, R3, T5: a thousand may wait, and no more.
func TestRemoteFull(t *testing.T) {
	x := wrong(t)
	x.fails(remote(told(t, alone(3, 1, strings.Repeat("w", api.MaxPending+1)))), api.ErrFull)
	x.fails(remote(told(t, alone(2, 0, "here"), alone(3, 1, strings.Repeat("w", api.MaxPending+1)))), api.ErrFull)
	x.tells(remote(told(t, alone(3, 1, strings.Repeat("w", api.MaxPending)))), version(3))
	x.fails(remote(told(t, alone(4, 1, "w"))), api.ErrFull)
	x.fails(remote(told(t, alone(2, 0, "here"), alone(4, 1, "w"))), api.ErrFull)
	x.tells(remote(told(t, alone(3, 0, "v"))), version(4))
	x.tells(drain(1), drained(4, changed(2, 1, 1, ""), changed(4, 4, 0, "v"+strings.Repeat("w", api.MaxPending))))
	x.stands()
}

// calls are some of each Op, right and wrong ones.
func calls(t *testing.T) []api.Call {
	return []api.Call{
		insert(0, "x"), insert(0, ""), insert(-1, "x"), insert(0, "\xff"), insert(0, strings.Repeat("x", 11)), insert(9, "\xff"),
		del(0, 1), del(0, 0), del(-1, 1), del(0, 99), remote(told(t, alone(3, 0, "y"))), remote(told(t, alone(1, 0, "a"))), remote(nil),
		remote(told(t, alone(3, 1, strings.Repeat("w", api.MaxPending+1)))),
		op(api.Snapshot), op(api.Vector), op(api.Subscribe), op(api.Close),
	}
}

// P14.1, R1, T5: a closed document tells ErrClosed of all these, whatever else is wrong with them.
func TestClosed(t *testing.T) {
	x := wrong(t)
	x.tells(op(api.Close), version(2))
	for range 2 {
		for _, c := range calls(t) {
			x.fails(c, api.ErrClosed)
		}
		for _, n := range []int{0, 2, -1, 100, 101, math.MinInt, math.MaxInt} {
			x.fails(drain(n), api.ErrClosed)
		}
	}
	x.tells(drain(1), drained(2, changed(2, 1, 1, "")))
	x.fails(drain(1), api.ErrClosed)
	for _, c := range calls(t) {
		x.fails(c, api.ErrClosed)
	}
}

// P14.1: also one that is closed at once is closed; its text is empty.
func TestClosedAtOnce(t *testing.T) {
	x := fresh(t, 1, 10, 1)
	x.tells(op(api.Close), api.Reply{})
	for _, c := range append(calls(t), drain(1), drain(0)) {
		x.fails(c, api.ErrClosed)
	}
	x.fails(op(0), api.ErrArg)
}

// P14.1: a hundred queues, by numbers from 1 on; all the next ones are ErrFull, drained or not.
func TestHundredQueues(t *testing.T) {
	x := fresh(t, 1, 1000, 2)
	for n := 1; n <= 100; n++ {
		x.tells(drain(n), code(api.ErrRange))
		x.tells(op(api.Subscribe), sub(n, n-1, strings.Repeat("é", n-1)))
		x.tells(insert(n-1, "é"), version(n))
	}
	for range 3 {
		x.fails(op(api.Subscribe), api.ErrFull)
	}
	all := strings.Repeat("é", 100)
	for n := 1; n <= 98; n++ {
		x.tells(drain(n), drained(100, changed(n, n-1, 0, "é"), changed(n+1, n, 0, "é"), whole(100, all)))
	}
	x.tells(drain(99), drained(100, changed(99, 98, 0, "é"), changed(100, 99, 0, "é")))
	x.tells(drain(100), drained(100, changed(100, 99, 0, "é")))
	x.fails(drain(101), api.ErrRange)
	x.fails(op(api.Subscribe), api.ErrFull)
	x.tells(del(0, 2), version(101))
	x.do(op(api.Close))
	x.fails(op(api.Subscribe), api.ErrClosed)
	for n := 100; n >= 1; n-- {
		x.tells(drain(n), drained(101, changed(101, 98, 2, "")))
		x.fails(drain(n), api.ErrClosed)
	}
}

// P14.1: no queue has a number below 1, or above how many there are.
func TestDrainOfNoQueue(t *testing.T) {
	x := fresh(t, 1, 1000, 2)
	for n := range 101 {
		for _, other := range append(far(n), 0, -99, -100, -101, 1<<32, 1<<32+1, 1<<8+1, math.MinInt+1) {
			x.tells(drain(other), code(api.ErrRange))
		}
		x.stands()
		if n < 100 {
			x.do(op(api.Subscribe))
		}
	}
	x.do(insert(0, "a"))
	for n := 1; n <= 100; n++ {
		x.tells(drain(n), drained(1, changed(1, 0, 0, "a")))
	}
}

// P14.1: a queue with no messages, some, as many as it has room for, and a gap; ahead of Close and behind it, till there are none.
func TestDrain(t *testing.T) {
	for _, closed := range []bool{false, true} {
		for changes := range 7 {
			x := fresh(t, 1, 1000, 3)
			x.do(op(api.Subscribe))
			var want []api.Message
			for n := range changes {
				x.do(insert(n, "é"))
				if n < 3 {
					want = append(want, changed(n+1, n, 0, "é"))
				}
			}
			if changes > 3 {
				want = append(want, whole(changes, strings.Repeat("é", changes)))
			}
			if closed {
				x.do(op(api.Close))
			}
			if changes > 0 || !closed {
				x.tells(drain(1), drained(changes, want...))
			}
			checkDrained(t, x, changes, closed)
		}
	}
}

// checkDrained asks more of a queue that has just been drained.
func checkDrained(t *testing.T, x *both, n int, closed bool) {
	t.Helper()
	for range 3 {
		if closed {
			x.fails(drain(1), api.ErrClosed)
		} else {
			x.tells(drain(1), drained(n))
		}
	}
	if closed {
		return
	}
	for range 3 {
		n++
		x.tells(insert(0, "a"), version(n))
	}
	x.tells(drain(1), drained(n, changed(n-2, 0, 0, "a"), changed(n-1, 1, 0, "a"), changed(n, 2, 0, "a")))
	x.tells(drain(1), drained(n))
}

// P14.1: of a closed document each queue tells what it holds, once, whatever the other ones do.
func TestDrainBehindClose(t *testing.T) {
	x := fresh(t, 1, 1000, 1)
	x.do(op(api.Subscribe))
	x.do(insert(0, "a"))
	x.do(op(api.Subscribe))
	x.do(insert(1, "b"))
	x.do(op(api.Subscribe))
	x.do(op(api.Close))
	x.fails(drain(3), api.ErrClosed)
	x.tells(drain(1), drained(2, changed(1, 0, 0, "a"), whole(2, "ab")))
	x.fails(drain(1), api.ErrClosed)
	x.fails(drain(3), api.ErrClosed)
	x.tells(drain(2), drained(2, changed(2, 1, 0, "b")))
	for n := 1; n <= 4; n++ {
		x.fails(drain(n), api.ErrClosed)
	}
}

// P14.1: each room is one of all queues, and just so many messages find it.
func TestRoom(t *testing.T) {
	for _, room := range []int{1, 2, 3, 10, 100, 999, 1000} {
		x := fresh(t, 1, 5000, room)
		for range 3 {
			x.do(op(api.Subscribe))
		}
		for n := range room {
			x.do(insert(n%3, "a"))
		}
		if r := x.do(drain(1)); len(r.Messages) != room || r.Messages[room-1].Whole {
			t.Fatalf("room %d: %d messages", room, len(r.Messages))
		}
		x.do(insert(0, "b"))
		if r := x.do(drain(2)); len(r.Messages) != room+1 || !r.Messages[room].Whole {
			t.Fatalf("room %d: %d messages, one more pushed", room, len(r.Messages))
		}
		x.tells(drain(1), drained(room+1, changed(room+1, 0, 0, "b")))
		x.do(insert(1, "c"))
		if r := x.do(drain(3)); len(r.Messages) != room+1 || r.Messages[room].Version != room+2 {
			t.Fatalf("room %d: %d messages, two more pushed", room, len(r.Messages))
		}
	}
}

// P14.1: what makes the version another one, but leaves the text, pushes nothing, and the next change goes on from there.
func TestTextStays(t *testing.T) {
	x := fresh(t, 1, 1000, 9)
	x.do(insert(0, "abc"))
	x.do(op(api.Subscribe))
	same := []api.Call{
		remote(gone(t, 8, 0, 5)),                               // Ids that haven't come
		remote(told(t, alone(8, 0, "12"))),                     // items that come deleted
		remote(told(t, alone(5, 1, "w"))),                      // one that waits
		remote(gone(t, 1, 3, 5)),                               // Ids of its own that haven't come
		insert(1, "xy"),                                        // and come deleted
		remote(gone(t, 5, 0, 2)),                               // one that waits, and what it waits for
		remote(told(t, alone(5, 0, "v"))),                      // both come deleted
		remote(replaced(t, id(1, 0), id(1, 1), id(6, 0), "a")), // one goes, and its like comes
	}
	for n, c := range same {
		x.tells(c, version(n+2))
		x.tells(op(api.Snapshot), text(n+2, "abc"))
		x.tells(drain(1), drained(n+2))
	}
	last := len(same) + 1
	for _, c := range []api.Call{insert(2, ""), del(1, 0), del(3, 0), same[0], same[1], same[6], same[7], remote(told(t))} {
		x.tells(c, version(last))
	}
	x.tells(drain(1), drained(last))
	x.tells(del(0, 1), version(last+1))
	x.tells(same[2], version(last+1))
	x.tells(remote(gone(t, 9, 1, 2)), version(last+2))
	x.tells(drain(1), drained(last+2, changed(last+1, 0, 1, "")))
}

// replaced has the bytes of an item that is put behind another one, which is deleted.
func replaced(t *testing.T, old, right, come api.Id, ch string) []byte {
	t.Helper()
	return put(t, api.Batch{
		Runs:    []api.Run{{Id: come, Left: old, Right: right, Text: ch}},
		Deletes: []api.Span{{Client: old.Client, From: old.Clock, To: old.Clock + 1}},
	})
}

// P14.1: without room, too, it pushes nothing: no gap comes of it; but the Whole of one has the version then.
func TestTextStaysWithoutRoom(t *testing.T) {
	x := fresh(t, 1, 1000, 1)
	x.do(op(api.Subscribe))
	x.do(insert(0, "a"))
	x.do(remote(gone(t, 8, 0, 5)))
	x.do(remote(gone(t, 8, 5, 9)))
	x.tells(drain(1), drained(3, changed(1, 0, 0, "a")))
	x.do(insert(1, "b"))
	x.do(insert(2, "c"))
	x.do(remote(gone(t, 8, 9, 11)))
	x.tells(drain(1), drained(6, changed(4, 1, 0, "b"), whole(6, "abc")))
	x.do(remote(gone(t, 8, 11, 12)))
	x.tells(drain(1), drained(7))
}

// P14.1: of two subscribers one drains, the other one doesn't: neither one's queue is the other's.
func TestOneDrainsTheOtherDoesnt(t *testing.T) {
	x := fresh(t, 1, 1000, 3)
	x.do(op(api.Subscribe))
	x.do(op(api.Subscribe))
	for n := range 10 {
		x.do(insert(0, "é"))
		x.tells(drain(2), drained(n+1, changed(n+1, n, 0, "é")))
	}
	x.tells(drain(1), drained(10, changed(1, 0, 0, "é"), changed(2, 1, 0, "é"), changed(3, 2, 0, "é"), whole(10, strings.Repeat("é", 10))))
	x.tells(drain(2), drained(10))
	x.do(del(0, 10))
	x.tells(drain(1), drained(11, changed(11, 0, 10, "")))
	x.tells(drain(2), drained(11, changed(11, 0, 10, "")))
}

// P14.1: the change is layer 12's: the beginning as long as it can be, then the end.
func TestChanges(t *testing.T) {
	x := fresh(t, 1, 1000, 9)
	x.do(insert(0, "éa"))
	x.do(op(api.Subscribe))
	x.do(insert(1, "é"))                                         // ééa: the second é is the new one
	x.do(insert(0, "éé"))                                        // éééé a: again
	x.do(del(0, 2))                                              // ééa
	x.do(remote(replaced(t, id(1, 1), api.Id{}, id(3, 0), "ë"))) // ééë
	x.do(del(0, 3))
	x.tells(drain(1), drained(6, changed(2, 1, 0, "é"), changed(3, 2, 0, "éé"), changed(4, 2, 2, ""), changed(5, 2, 1, "ë"), changed(6, 0, 3, "")))
}

// P14.1: Text and Since are the document's, ahead of Close and behind it.
func TestTextAndSince(t *testing.T) {
	x := fresh(t, 4, 1000, 2)
	x.do(insert(0, "aéb"))
	x.do(del(1, 1))
	x.do(remote(told(t, alone(9, 0, "zz"), alone(9, 5, "w"))))
	for range 2 {
		if s := x.s.Text(); s != "abzz" {
			t.Fatalf("Text() = %q", s)
		}
		want := api.Batch{Runs: []api.Run{alone(4, 0, "aéb"), alone(9, 0, "zz")}, Deletes: []api.Span{{Client: 4, From: 1, To: 2}}}
		if got := x.s.Since(nil); !sameBatch(got, want) {
			t.Fatalf("Since(nil) = %v", got)
		}
		want.Runs = []api.Run{{Id: id(9, 1), Left: id(9, 0), Text: "z"}}
		if got := x.s.Since(clocks(4, 3, 9, 1)); !sameBatch(got, want) {
			t.Fatalf("Since() = %v", got)
		}
		for _, v := range [][]api.Clock{{}, clocks(1, 1), clocks(4, 2), clocks(4, 3), clocks(9, 2), clocks(4, 3, 9, 2), clocks(1, 9, 4, math.MaxUint32, 9, 7, math.MaxUint32, 3)} {
			x.since(v)
		}
		x.do(op(api.Close))
	}
}

// P14.1: two shared documents know nothing of one another.
func TestTwoDocuments(t *testing.T) {
	x, y := fresh(t, 1, 10, 1), fresh(t, 1, 10, 2)
	x.tells(op(api.Subscribe), sub(1, 0, ""))
	x.tells(insert(0, "ab"), version(1))
	y.tells(drain(1), code(api.ErrRange))
	y.tells(op(api.Snapshot), api.Reply{})
	y.tells(op(api.Subscribe), sub(1, 0, ""))
	x.tells(op(api.Subscribe), sub(2, 1, "ab"))
	x.tells(op(api.Close), version(1))
	y.tells(insert(0, "é"), version(1))
	y.tells(insert(0, "é"), version(2))
	y.tells(drain(1), drained(2, changed(1, 0, 0, "é"), changed(2, 1, 0, "é")))
	x.tells(drain(1), drained(1, changed(1, 0, 0, "ab")))
	x.stands()
	y.stands()
}

// P1: no call panics, whatever its numbers, texts and bytes are, and each tells what the words say.
func TestAllKindsOfArguments(t *testing.T) {
	numbers := []int{math.MinInt, -1, 0, 1, 2, 3, 100, math.MaxInt32, math.MaxInt}
	texts := []string{"", "a", "\xff", "é\x00", strings.Repeat("😀", 40)}
	bytes := [][]byte{nil, {}, {0, 0}, {255, 255, 255}, told(t), told(t, alone(2, 0, "zé")), gone(t, 1, 0, math.MaxUint32), gone(t, math.MaxUint32, 0, 1)}
	for _, closed := range []bool{false, true} {
		x := fresh(t, 1, 60, 2)
		x.do(insert(0, "ab"))
		x.do(op(api.Subscribe))
		if closed {
			x.do(del(0, 1))
			x.do(op(api.Close))
		}
		for n := -1; n <= 9; n++ {
			if n == api.Close && !closed {
				continue
			}
			for _, at := range numbers {
				for _, count := range numbers {
					for k := range 40 {
						x.do(api.Call{Op: n, At: at, N: count, Text: texts[k%5], Bytes: bytes[k%8]})
					}
				}
			}
			x.stands()
		}
	}
}
