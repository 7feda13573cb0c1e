package subs

import (
	"errors"
	"math"
	"slices"
	"strconv"
	"strings"
	"testing"
	"unsafe"

	"surcingle/api"
)

// told is a queue by the chapter's words: all that was pushed behind the last Drain, also what found no room.
type told struct {
	room   int
	pushed []api.Message
}

// holds is how many of these have room.
func (w *told) holds() int { return min(len(w.pushed), w.room) }

// push tells whether the next one has room.
func (w *told) push(m api.Message) bool {
	w.pushed = append(w.pushed, m)
	return len(w.pushed) <= w.room
}

// drain tells what has room, and a Whole if not all has.
func (w *told) drain(version int, text string) []api.Message {
	all := slices.Clone(w.pushed[:w.holds()])
	if len(w.pushed) > w.room {
		all = append(all, api.Message{Version: version, Whole: true, Text: text})
	}
	w.pushed = nil
	return all
}

// pair is a queue beside what the words say of it.
type pair struct {
	q *Queue
	w told
}

// newPair makes a queue, which has to be one.
func newPair(t *testing.T, room int) *pair {
	t.Helper()
	q, err := New(room)
	if q == nil || err != nil {
		t.Fatalf("New(%d) = %v, %v, want a queue", room, q, err)
	}
	p := &pair{q, told{room: room}}
	p.checkLen(t)
	return p
}

// checkLen asks twice, as asking changes nothing.
func (p *pair) checkLen(t *testing.T) {
	t.Helper()
	for range 2 {
		if n := p.q.Len(); n != p.w.holds() {
			t.Fatalf("room %d, pushed %d: Len() = %d, want %d", p.w.room, len(p.w.pushed), n, p.w.holds())
		}
	}
}

// push pushes, with Len ahead and behind.
func (p *pair) push(t *testing.T, m api.Message) bool {
	t.Helper()
	p.checkLen(t)
	want := p.w.push(m)
	if ok := p.q.Push(m); ok != want {
		t.Fatalf("room %d: Push no. %d = %v, want %v", p.w.room, len(p.w.pushed), ok, want)
	}
	p.checkLen(t)
	return want
}

// drain drains, with Len ahead and behind.
func (p *pair) drain(t *testing.T, version int, text string) []api.Message {
	t.Helper()
	p.checkLen(t)
	count := len(p.w.pushed)
	want := p.w.drain(version, text)
	all := p.q.Drain(version, text)
	if !slices.Equal(all, want) {
		t.Fatalf("room %d, pushed %d: Drain(%d, %q) = %+v, want %+v", p.w.room, count, version, text, all, want)
	}
	p.checkLen(t)
	return all
}

// message is the n-th, unlike all others in each of its fields but Whole.
func message(n int) api.Message {
	s := strconv.Itoa(n)
	return api.Message{Version: n, Whole: n%3 == 0, Text: "t" + s, Edit: api.Edit{At: n + 1, Del: n + 2, Ins: "é" + s}}
}

// mixer tells numbers that are mixed, the same ones each time.
type mixer uint32

func (m *mixer) below(n int) int {
	*m = *m*1664525 + 1013904223
	return int(uint32(*m)>>8) % n
}

// P13.1, R3: ErrArg, itself, and no queue, where room isn't 1 to 1000.
func TestNewRefusesWhatIsNoRoom(t *testing.T) {
	for _, room := range []int{
		0, -1, -2, -1000, -1001, 1001, 1002, 2000, 1 << 16, 1<<16 + 1, 1<<16 + 1000,
		math.MinInt16, math.MaxInt16, math.MinInt32, math.MaxInt32, 1 << 32, 1<<32 + 1, 1<<32 + 1000, -1<<32 + 1,
		math.MinInt, math.MinInt + 1, math.MinInt + 1000, math.MaxInt - 1, math.MaxInt,
	} {
		q, err := New(room)
		var fault *api.Fault
		if q != nil || err != api.ErrArg || errors.As(err, &fault) {
			t.Errorf("New(%d) = %v, %v, want %v itself", room, q, err, api.ErrArg)
		}
	}
}

// P13.1: a new queue of each room is without messages, and holds just so many, and then again.
func TestEachRoomHoldsSoMany(t *testing.T) {
	for room := 1; room <= 1000; room++ {
		p := newPair(t, room)
		if all := p.drain(t, 1, "x"); len(all) != 0 {
			t.Fatalf("a new queue of room %d has %+v", room, all)
		}
		for n := range room {
			if !p.push(t, message(n)) {
				t.Fatalf("room %d has no room for no. %d", room, n)
			}
		}
		if room%2 == 0 {
			p.drain(t, 2, "y")
			for n := range room {
				p.push(t, message(room+n))
			}
		}
		for n := range 2 {
			if p.push(t, message(2*room+n)) {
				t.Fatalf("room %d has room for more", room)
			}
		}
		if all := p.drain(t, 3, "z"); len(all) != room+1 || all[room] != (api.Message{Version: 3, Whole: true, Text: "z"}) {
			t.Fatalf("room %d: %d messages behind a gap", room, len(all))
		}
	}
}

// P13.1: the document's example.
func TestRoomOneTwoPushed(t *testing.T) {
	q, err := New(1)
	if err != nil {
		t.Fatal(err)
	}
	one := api.Message{Version: 1, Edit: api.Edit{Ins: "a"}}
	two := api.Message{Version: 2, Edit: api.Edit{At: 1, Ins: "b"}}
	if !q.Push(one) || q.Push(two) || q.Len() != 1 {
		t.Fatal("room 1 holds one of two")
	}
	want := []api.Message{one, {Version: 2, Whole: true, Text: "ab"}}
	if all := q.Drain(2, "ab"); !slices.Equal(all, want) {
		t.Errorf("drained %+v, want %+v", all, want)
	}
}

// P13.1: a queue without messages, with some, with as many as it may hold, with a gap, each drained twice in a row.
func TestDrainTwiceInARow(t *testing.T) {
	for pushed := range 6 {
		p := newPair(t, 3)
		for n := range pushed {
			p.push(t, message(n))
		}
		all := p.drain(t, 7, "whole")
		want := min(pushed, 3)
		if pushed > 3 {
			want++
		}
		if len(all) != want {
			t.Errorf("%d pushed: %d drained, want %d", pushed, len(all), want)
		}
		for n := range 3 {
			if again := p.drain(t, 8+n, "again"); len(again) != 0 {
				t.Errorf("%d pushed: drained again, %+v", pushed, again)
			}
		}
	}
}

// P13.1: a gap stays, also where nothing or much is pushed behind it, till a Drain tells it, once.
func TestGapIsToldOnce(t *testing.T) {
	for room := 1; room <= 4; room++ {
		for missed := 1; missed <= 4; missed++ {
			p := newPair(t, room)
			for n := range room + missed {
				if ok := p.push(t, message(n)); ok != (n < room) {
					t.Fatalf("room %d: Push no. %d is %v", room, n, ok)
				}
			}
			all := p.drain(t, 50, "all")
			if len(all) != room+1 || all[room] != (api.Message{Version: 50, Whole: true, Text: "all"}) {
				t.Fatalf("room %d, %d missed: %+v", room, missed, all)
			}
			for n := range room {
				if !p.push(t, message(60+n)) {
					t.Fatalf("room %d: no room behind the Drain that told the gap", room)
				}
			}
			if all := p.drain(t, 70, "more"); len(all) != room {
				t.Fatalf("room %d: %+v, though the gap was told", room, all)
			}
		}
	}
}

// P13.1: the Whole has the version and the text of its Drain, whatever they are, and nothing else.
func TestWholeHasVersionAndText(t *testing.T) {
	p := newPair(t, 1)
	for _, version := range []int{0, 1, -1, 2, math.MaxInt32, math.MaxInt32 + 1, math.MaxInt, math.MinInt} {
		for _, text := range []string{"", "a", "éa€😀", "\x00", "a\nb", "\ufffd", "\xff\xc3", strings.Repeat("é", 10000)} {
			for n := range 2 {
				p.push(t, message(n))
			}
			all := p.drain(t, version, text)
			want := api.Message{Version: version, Whole: true, Text: text}
			if len(all) != 2 || all[1] != want {
				t.Fatalf("Drain(%d, %q) = %+v", version, text, all)
			}
		}
	}
}

// P13.1: without a gap neither version nor text is told, whatever they are.
func TestVersionAndTextAreOfAGapOnly(t *testing.T) {
	p := newPair(t, 3)
	for pushed := range 4 {
		for _, version := range []int{0, 1, -1, math.MaxInt, math.MinInt} {
			for _, text := range []string{"", "a", "é", "\xff"} {
				for n := range pushed {
					p.push(t, message(n))
				}
				if all := p.drain(t, version, text); len(all) != pushed {
					t.Fatalf("Drain(%d, %q) of %d = %+v", version, text, pushed, all)
				}
			}
		}
	}
}

// odd are messages of all kinds, those that no document would tell among them.
func odd() []api.Message {
	return []api.Message{
		{},
		{Version: -1},
		{Version: math.MaxInt},
		{Version: math.MinInt},
		{Whole: true},
		{Whole: true, Version: 3, Text: "éa"},
		{Whole: true, Text: "a", Edit: api.Edit{At: 1, Del: 2, Ins: "b"}},
		{Text: "a"},
		{Text: "\xff", Edit: api.Edit{Ins: "\xc3"}},
		{Edit: api.Edit{At: -1, Del: -1}},
		{Edit: api.Edit{At: math.MaxInt, Del: math.MaxInt, Ins: "€😀"}},
		{Edit: api.Edit{At: math.MinInt, Del: math.MinInt, Ins: "\x00"}},
		{Edit: api.Edit{Ins: "e\u0301"}},
		{Text: strings.Repeat("é", 5000), Edit: api.Edit{Ins: strings.Repeat("😀", 5000)}},
	}
}

// P13.1: each message is held as it is, and beside one that is alike; a pushed Whole makes no gap and ends none.
func TestMessagesOfAllKinds(t *testing.T) {
	kinds := odd()
	p := newPair(t, 2*len(kinds))
	for _, m := range kinds {
		p.push(t, m)
		p.push(t, m)
	}
	for i, m := range p.drain(t, 1, "x") {
		if m != kinds[i/2] {
			t.Errorf("no. %d: %+v, want %+v", i, m, kinds[i/2])
		}
	}
	for _, a := range kinds {
		for _, b := range kinds {
			p := newPair(t, 1)
			p.push(t, a)
			p.push(t, b)
			p.push(t, a)
			p.drain(t, 9, "y")
			p.push(t, b)
			p.drain(t, 9, "y")
		}
	}
}

// P13.1: all that twelve calls may do, by small rooms.
func TestAllShortCalls(t *testing.T) {
	const calls = 12
	for room := 1; room <= 5; room++ {
		for way := range 1 << calls {
			p := newPair(t, room)
			for n := range calls {
				if way>>n&1 == 0 {
					p.push(t, message(n))
				} else {
					p.drain(t, n, strconv.Itoa(n))
				}
			}
			p.drain(t, calls, "end")
			p.drain(t, calls, "end")
		}
	}
}

// P13.1: mixed calls, by rooms of all sizes, some drained often and some seldom.
func TestMixedCalls(t *testing.T) {
	m := mixer(1)
	for round := range 300 {
		room := 1 + m.below([]int{3, 20, 1000}[round%3])
		p := newPair(t, room)
		seldom := 1 + m.below(2*room)
		for n := range 4 * room {
			if m.below(seldom) == 0 {
				p.drain(t, n, strconv.Itoa(round))
			} else {
				p.push(t, message(n))
			}
		}
		p.drain(t, -1, "end")
	}
}

// P13.3: without a gap each message comes once, in order, wherever the Drains stand.
func TestEachMessageComesOnceInOrder(t *testing.T) {
	m := mixer(2)
	for room := 1; room <= 1000; room += 1 + room/4 {
		for range 10 {
			checkOnceInOrder(t, room, &m)
		}
	}
}

// checkOnceInOrder drains ahead of any gap, with whatever the queue then holds.
func checkOnceInOrder(t *testing.T, room int, m *mixer) {
	t.Helper()
	q, err := New(room)
	if err != nil {
		t.Fatal(err)
	}
	var came []api.Message
	all := 3*room + m.below(room)
	for n, held := 0, 0; n < all; n++ {
		if held == room || m.below(room+1) == 0 {
			came, held = append(came, q.Drain(n, "whole")...), 0
		}
		if !q.Push(message(n)) {
			t.Fatalf("room %d: no room for no. %d", room, n)
		}
		held++
	}
	came = append(came, q.Drain(all, "whole")...)
	if len(came) != all {
		t.Fatalf("room %d: %d of %d came", room, len(came), all)
	}
	for n, one := range came {
		if one != message(n) {
			t.Fatalf("room %d: no. %d is %+v", room, n, one)
		}
	}
}

// P13.1, P13.3: with gaps too, what Push told true of comes once, in order, and each gap ends with one Whole.
func TestWhatFoundRoomComes(t *testing.T) {
	m := mixer(3)
	for room := 1; room <= 8; room++ {
		q, err := New(room)
		if err != nil {
			t.Fatal(err)
		}
		var want []api.Message
		var came []api.Message
		gap := false
		for n := range 2000 {
			one := api.Message{Version: n, Edit: api.Edit{At: n}}
			if q.Push(one) {
				want = append(want, one)
			} else {
				gap = true
			}
			if m.below(room+1) != 0 {
				continue
			}
			came = append(came, q.Drain(n, "whole")...)
			if gap {
				want = append(want, api.Message{Version: n, Whole: true, Text: "whole"})
			}
			gap = false
		}
		want = want[:len(want)-q.Len()]
		if !slices.Equal(came, want) {
			t.Errorf("room %d: %d came, want %d, or others", room, len(came), len(want))
		}
	}
}

// P13.1: two queues know nothing of one another: all that eight calls of two may do.
func TestTwoQueues(t *testing.T) {
	const calls = 8
	for way := range 1 << (2 * calls) {
		two := []*pair{newPair(t, 1), newPair(t, 2)}
		for n := range calls {
			p := two[way>>(2*n)&1]
			if way>>(2*n)&2 == 0 {
				p.push(t, message(n))
			} else {
				p.drain(t, n, strconv.Itoa(n))
			}
			two[0].checkLen(t)
			two[1].checkLen(t)
		}
		two[0].drain(t, calls, "end")
		two[1].drain(t, calls, "end")
	}
}

// P13.1: nor do many, of the same room or not, of which each is one of its own.
func TestManyQueues(t *testing.T) {
	m := mixer(4)
	var many []*pair
	seen := map[*Queue]bool{}
	for n := range 100 {
		p := newPair(t, 1+n%7)
		many = append(many, p)
		seen[p.q] = true
	}
	if len(seen) != len(many) {
		t.Fatalf("%d queues of %d", len(seen), len(many))
	}
	for n := range 20000 {
		p := many[m.below(len(many))]
		if m.below(5) == 0 {
			p.drain(t, n, strconv.Itoa(n))
		} else {
			p.push(t, message(n))
		}
		if m.below(50) == 0 {
			New(m.below(3000) - 1000)
		}
	}
	for _, p := range many {
		p.drain(t, -1, "end")
	}
}

// P13.1, P13.2: the same message in many queues is each one's own.
func TestOneMessageInManyQueues(t *testing.T) {
	a, b := newPair(t, 2), newPair(t, 2)
	one, memory := handed(message(1))
	a.q.Push(one)
	b.q.Push(one)
	l := a.q.Drain(1, "x")
	l[0] = api.Message{}
	spoil(memory)
	if l := b.q.Drain(1, "x"); !slices.Equal(l, []api.Message{message(1)}) {
		t.Errorf("the other one's is %+v", l)
	}
}

// reached holds all memory that was handed in, so that none of it is where the language copies it by itself.
var reached [][]byte

// handedText is a text whose memory can be written over later on.
func handedText(text string) (string, []byte) {
	memory := []byte(text)
	reached = append(reached, memory)
	return unsafe.String(unsafe.SliceData(memory), len(memory)), memory
}

// handed is a message whose texts' memory can be written over later on: both texts, with a mark between.
func handed(m api.Message) (api.Message, []byte) {
	both, memory := handedText(m.Text + "|" + m.Edit.Ins)
	m.Text, m.Edit.Ins = both[:len(m.Text)], both[len(m.Text)+1:]
	return m, memory
}

// spoil writes over memory that was handed in.
func spoil(memory []byte) {
	for k := range memory {
		memory[k] = '#'
	}
}

// P13.2: what was pushed is not kept, nor changed: the messages stay as they are when its memory is no more.
func TestPushKeepsNothing(t *testing.T) {
	for _, kind := range append(odd(), message(1), message(2), message(3)) {
		for _, early := range []bool{true, false} {
			p := newPair(t, 2)
			one, memory := handed(kind)
			before := string(memory)
			p.q.Push(one)
			p.q.Push(message(5))
			if early {
				spoil(memory)
			}
			l := p.q.Drain(1, "x")
			if !early && string(memory) != before {
				t.Fatalf("%+v was changed", kind)
			}
			spoil(memory)
			if !slices.Equal(l, []api.Message{kind, message(5)}) {
				t.Errorf("of %+v, which is no more: %+v", kind, l)
			}
		}
	}
}

// P13.2: nor is what a Drain was handed, whether it is told or not.
func TestDrainKeepsNothing(t *testing.T) {
	for pushed := range 4 {
		for _, text := range []string{"", "a", "éa€😀", "\xff", strings.Repeat("é", 5000)} {
			p := newPair(t, 2)
			for n := range pushed {
				p.push(t, message(n))
			}
			s, memory := handedText(text)
			l := p.q.Drain(4, s)
			if string(memory) != text {
				t.Fatalf("%q was changed", text)
			}
			spoil(memory)
			if want := p.w.drain(4, text); !slices.Equal(l, want) {
				t.Errorf("of %q, which is no more, and %d pushed: %+v, want %+v", text, pushed, l, want)
			}
		}
	}
}

// drained is what a Drain told, and what it was then.
type drained struct{ now, then []api.Message }

// copied tells the same messages, with texts in other memory.
func copied(l []api.Message) []api.Message {
	var all []api.Message
	for _, m := range l {
		m.Text, m.Edit.Ins = strings.Clone(m.Text), strings.Clone(m.Edit.Ins)
		all = append(all, m)
	}
	return all
}

// P13.2: what a Drain told stays as it is, whatever is pushed and drained behind it.
func TestWhatIsToldStays(t *testing.T) {
	m := mixer(5)
	for room := 1; room <= 40; room++ {
		p := newPair(t, room)
		var all []drained
		for n := range 60 * room {
			if m.below(room+1) != 0 {
				p.push(t, message(n))
				continue
			}
			l := p.drain(t, n, strconv.Itoa(n))
			all = append(all, drained{l, copied(l)})
		}
		for i, one := range all {
			if !slices.Equal(one.now, one.then) {
				t.Fatalf("room %d, Drain no. %d: it was %+v, and is %+v", room, i, one.then, one.now)
			}
		}
	}
}

// P13.2: what is told is the caller's: where it writes into it, up to its end and beyond, no queue and no other list changes.
func TestWhatIsToldIsTheCallers(t *testing.T) {
	for room := 1; room <= 20; room++ {
		p := newPair(t, room)
		var kept []drained
		for round := range 40 {
			for n := range (round * 7) % (room + 3) {
				p.push(t, message(100*round+n))
			}
			l := p.drain(t, round, strconv.Itoa(round))
			if round%2 == 0 {
				kept = append(kept, drained{l, copied(l)})
				continue
			}
			for n := range (round * 5) % (room + 2) {
				p.push(t, message(100*round+50+n))
			}
			l = l[:cap(l)]
			for i := range l {
				l[i] = api.Message{Version: -9, Text: "other"}
			}
		}
		for _, one := range kept {
			if !slices.Equal(one.now, one.then) {
				t.Fatalf("room %d: it was %+v, and is %+v", room, one.then, one.now)
			}
		}
	}
}

// P13.2: no memory of a list told, nor of its texts, is what was handed in, or another list's.
func TestWhatIsToldIsNewMemory(t *testing.T) {
	p := newPair(t, 3)
	seen := map[*byte]bool{}
	lists := map[*api.Message]bool{}
	one, text := message(1), strings.Repeat("é", 9)
	for _, s := range []string{one.Text, one.Edit.Ins, text} {
		seen[unsafe.StringData(s)] = true
	}
	for range 50 {
		for range 4 {
			p.push(t, one)
		}
		l := p.drain(t, 1, text)
		reachedLists = append(reachedLists, l)
		if lists[&l[0]] {
			t.Fatal("a list is told twice")
		}
		lists[&l[0]] = true
		for _, m := range l {
			for _, s := range []string{m.Text, m.Edit.Ins} {
				if s != "" && seen[unsafe.StringData(s)] {
					t.Fatalf("the memory of %q is not new", s)
				}
				seen[unsafe.StringData(s)] = true
			}
		}
	}
}

// reachedLists holds lists that were told, so that no memory is theirs one behind the other.
var reachedLists [][]api.Message

// P1: much behind a gap, and long texts, end soon; what found no room is not held.
func TestMuchPushed(t *testing.T) {
	q, err := New(1000)
	if err != nil {
		t.Fatal(err)
	}
	long := strings.Repeat("😀", 1<<20)
	for n := range 1000000 {
		text := ""
		if n < 3 {
			text = long
		}
		if ok := q.Push(api.Message{Version: n, Text: text}); ok != (n < 1000) {
			t.Fatalf("Push no. %d is %v", n, ok)
		}
	}
	l := q.Drain(5, long)
	if len(l) != 1001 || l[2].Text != long || l[999].Version != 999 || l[1000] != (api.Message{Version: 5, Whole: true, Text: long}) {
		t.Errorf("%d drained, or others", len(l))
	}
	for range 1000000 {
		if l := q.Drain(6, long[:4]); len(l) != 0 || q.Len() != 0 {
			t.Fatalf("%d drained of none", len(l))
		}
	}
}
