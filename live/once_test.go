package live

import (
	"cmp"
	"slices"
	"strings"
	"sync"
	"sync/atomic"
	"testing"
	"time"

	"surcingle/api"
	"surcingle/doc"
)

// Text and Since beside the Ops that Do knows.
const (
	opText  = 101
	opSince = 102
)

// record is a call and what came of it, with when it began and ended, by a count of all beginnings and ends.
type record struct {
	call         api.Call
	reply        api.Reply
	batch        api.Batch // of opSince
	began, ended int64
}

// makes makes a call.
func makes(s *Shared, c api.Call) record {
	switch c.Op {
	case opText:
		return record{call: c, reply: api.Reply{Text: s.Text()}}
	case opSince:
		return record{call: c, batch: s.Since(nil)}
	}
	return record{call: c, reply: s.Do(c)}
}

// atOnce lets many make their calls at once, each one behind the other; next tells somebody's next one by what came of those ahead.
func atOnce(s *Shared, many, each int, next func(who int, ahead []record) api.Call) [][]record {
	var count atomic.Int64
	var all sync.WaitGroup
	records := make([][]record, many)
	start := make(chan struct{})
	for who := range many {
		all.Go(func() {
			<-start
			var l []record
			for range each {
				c := next(who, l)
				began := count.Add(1)
				r := makes(s, c)
				r.began, r.ended = began, count.Add(1)
				l = append(l, r)
			}
			records[who] = l
		})
	}
	close(start)
	all.Wait()
	return records
}

// past is all that a document was, by versions, as layer 11 makes it of the same changes in the order of their versions.
type past struct {
	texts   map[int]string
	vectors map[int][]api.Clock
	changes map[int]api.Message
	last    int
}

// pastOf does all changes that were done, one behind the other, on one document.
func pastOf(t *testing.T, records []record) past {
	t.Helper()
	d, err := doc.New(1, 100000)
	if err != nil {
		t.Fatal(err)
	}
	p := past{map[int]string{0: ""}, map[int][]api.Clock{0: nil}, map[int]api.Message{}, 0}
	w := &words{d: d, room: 1, pushed: [][]api.Message{nil}}
	for _, r := range changesOf(records) {
		if got := w.change(t, r.call); !sameReply(got, r.reply) {
			t.Fatalf("%+v told %+v: by the order of versions it is %+v", r.call, r.reply, got)
		}
		p.last = d.Version()
		p.texts[p.last], p.vectors[p.last] = d.Text(), d.Vector()
		for _, m := range w.pushed[0] {
			p.changes[m.Version] = m
		}
		w.pushed[0] = nil
	}
	return p
}

// changesOf tells the changes that were done, by their versions; each one here makes another version.
func changesOf(records []record) []record {
	var l []record
	for _, r := range records {
		if isChange(r) {
			l = append(l, r)
		}
	}
	slices.SortFunc(l, func(a, b record) int { return cmp.Compare(a.reply.Version, b.reply.Version) })
	return l
}

func isChange(r record) bool {
	return r.reply.Code == 0 && (r.call.Op == api.Insert || r.call.Op == api.Delete || r.call.Op == api.Remote)
}

// hasVersion: the others have none, as they were refused, or are Text and Since.
func hasVersion(r record) bool { return r.call.Op <= api.Close && r.reply.Code == 0 }

// bounds are the versions between which a call acted, by what had ended ahead of its beginning, and what began behind its end.
func (p past) bounds(r record, all []record) (low, high int) {
	high = p.last
	for _, other := range all {
		if !hasVersion(other) {
			continue
		}
		if other.ended < r.began {
			low = max(low, other.reply.Version)
		}
		if other.began > r.ended {
			high = min(high, other.reply.Version)
		}
	}
	return low, high
}

// checkOrder asks that what had ended ahead of another one's beginning acted ahead of it.
func (p past) checkOrder(t *testing.T, all []record) {
	t.Helper()
	for _, r := range all {
		low, high := p.bounds(r, all)
		if isChange(r) {
			low++
		}
		if hasVersion(r) && (r.reply.Version < low || r.reply.Version > high) {
			t.Fatalf("%+v told version %d, not one of %d to %d", r.call, r.reply.Version, low, high)
		}
	}
}

// checkReply asks that a call that changes nothing told one version.
func (p past) checkReply(t *testing.T, r record, all []record) {
	t.Helper()
	v := r.reply.Version
	want := api.Reply{Version: v}
	switch r.call.Op {
	case api.Snapshot:
		want.Text = p.texts[v]
	case api.Vector:
		want.Clocks = p.vectors[v]
	case api.Subscribe:
		want.Sub, want.Text = r.reply.Sub, p.texts[v]
	case opText, opSince:
		p.checkLook(t, r, all)
		return
	default:
		return
	}
	if !sameReply(r.reply, want) {
		t.Fatalf("%+v told %+v, want %+v", r.call, r.reply, want)
	}
}

// checkLook asks that Text or Since told the document of one of the versions at which it may have looked.
func (p past) checkLook(t *testing.T, r record, all []record) {
	t.Helper()
	low, high := p.bounds(r, all)
	s, v := r.reply.Text, []api.Clock(nil)
	if r.call.Op == opSince {
		d, err := doc.New(99, 0)
		if err != nil {
			t.Fatal(err)
		}
		if _, err := d.Apply(put(t, r.batch)); err != nil {
			t.Fatal(err)
		}
		s, v = d.Text(), d.Vector()
	}
	for n := low; n <= high; n++ {
		if s == p.texts[n] && (r.call.Op == opText || slices.Equal(v, p.vectors[n])) {
			return
		}
	}
	t.Fatalf("%+v told %q, %v: none of versions %d to %d", r.call, s, v, low, high)
}

// checkQueue asks that all Drains of one queue, by one caller alone, told all changes behind the version of its Subscribe.
func (p past) checkQueue(t *testing.T, number, from, room int, l []record) {
	t.Helper()
	for _, r := range l {
		if r.call.Op != api.Drain || r.call.N != number || r.reply.Code != 0 {
			continue
		}
		v := r.reply.Version
		var want []api.Message
		for n := from + 1; n <= v; n++ {
			if m, has := p.changes[n]; has {
				want = append(want, m)
			}
		}
		if len(want) > room {
			want = append(want[:room], whole(v, p.texts[v]))
		}
		if !slices.Equal(r.reply.Messages, want) {
			t.Fatalf("queue %d told %+v from version %d to %d, want %+v", number, r.reply.Messages, from, v, want)
		}
		from = v
	}
}

// ownQueue tells the queue to which somebody subscribed.
func ownQueue(l []record) (api.Reply, bool) {
	for _, r := range l {
		if r.call.Op == api.Subscribe && r.reply.Code == 0 {
			return r.reply, true
		}
	}
	return api.Reply{}, false
}

// begun is a shared document of some text, so that no change here misses its place.
func begun(t *testing.T, room int) (*Shared, record) {
	t.Helper()
	s, err := New(1, 100000, room)
	if err != nil {
		t.Fatal(err)
	}
	return s, makes(s, insert(0, strings.Repeat("é-世", 100)))
}

// anyCall tells a call of somebody's: each change makes another version, and each one drains a queue of its own.
func anyCall(t *testing.T, m *mixer, who int, ahead []record) api.Call {
	q, subscribed := ownQueue(ahead)
	switch m.below(12) {
	case 0, 1:
		return insert(m.below(200), someText(m, 3))
	case 2:
		return del(m.below(200), 1)
	case 3:
		return remote(told(t, alone(uint32(10+who), 0, "r")))
	case 4:
		return remote(gone(t, uint32(500+who), uint32(len(ahead)), uint32(len(ahead)+1)))
	case 5:
		return op(api.Snapshot)
	case 6:
		return op(api.Vector)
	case 7:
		return op(opText)
	case 8:
		return op(opSince)
	case 9:
		return []api.Call{insert(0, "\xff"), del(-1, 1), remote(nil), drain(0), op(0)}[m.below(5)]
	}
	if !subscribed {
		return op(api.Subscribe)
	}
	return drain(q.Sub)
}

// onlyOnce takes out what would be told again, and so make no version.
func onlyOnce(c api.Call, ahead []record) api.Call {
	if c.Op == api.Remote && slices.ContainsFunc(ahead, func(r record) bool { return slices.Equal(r.call.Bytes, c.Bytes) }) {
		return op(api.Snapshot)
	}
	return c
}

// P14.1, P14.3, T1, T2: many call at once; by the order of versions each call told what layer 11 tells, each queue all changes, in order, and what had ended ahead of another one's beginning acted ahead of it.
func TestManyAtOnce(t *testing.T) {
	const many, each = 8, 40
	for round := range 12 {
		room := []int{1, 3, 1000}[round%3]
		s, first := begun(t, room)
		mixers := make([]mixer, many)
		records := atOnce(s, many, each, func(who int, ahead []record) api.Call {
			if len(ahead) == 0 {
				mixers[who] = mixer(100*round + who)
			}
			return onlyOnce(anyCall(t, &mixers[who], who, ahead), ahead)
		})
		all := append(slices.Concat(records...), first)
		p := pastOf(t, all)
		p.checkOrder(t, all)
		for _, r := range all {
			p.checkReply(t, r, all)
		}
		checkNumbers(t, all)
		for _, l := range records {
			if q, has := ownQueue(l); has {
				l = append(l, makes(s, drain(q.Sub)))
				p.checkQueue(t, q.Sub, q.Version, room, l)
			}
		}
		if r := s.Do(op(api.Snapshot)); !sameReply(r, text(p.last, p.texts[p.last])) || s.Text() != r.Text {
			t.Fatalf("it ends with %+v, want %q", r, p.texts[p.last])
		}
	}
}

// checkNumbers asks that queues have the numbers from 1 on, in the order of their versions.
func checkNumbers(t *testing.T, all []record) {
	t.Helper()
	var l []api.Reply
	for _, r := range all {
		if r.call.Op == api.Subscribe && r.reply.Code == 0 {
			l = append(l, r.reply)
		}
	}
	slices.SortFunc(l, func(a, b api.Reply) int { return cmp.Compare(a.Sub, b.Sub) })
	for n, r := range l {
		if r.Sub != n+1 || n > 0 && r.Version < l[n-1].Version {
			t.Fatalf("no. %d of the queues: %+v", n+1, r)
		}
	}
}

// P14.1: of many that subscribe at once a hundred get queues, each one of its own.
func TestManySubscribeAtOnce(t *testing.T) {
	for range 20 {
		s, first := begun(t, 2)
		records := atOnce(s, 15, 10, func(int, []record) api.Call { return op(api.Subscribe) })
		all := slices.Concat(records...)
		checkNumbers(t, all)
		var queues, full int
		for _, r := range all {
			switch {
			case sameReply(r.reply, code(api.ErrFull)):
				full++
			case sameReply(r.reply, sub(r.reply.Sub, 1, s.Text())):
				queues++
			default:
				t.Fatalf("Subscribe told %+v behind %+v", r.reply, first.reply)
			}
		}
		if queues != 100 || full != 50 {
			t.Fatalf("%d queues, %d refused", queues, full)
		}
	}
}

// P14.1: many drain one queue while others write: each message comes to one of them, once.
func TestManyDrainOneQueueAtOnce(t *testing.T) {
	for range 10 {
		s, _ := begun(t, 1000)
		s.Do(op(api.Subscribe))
		records := atOnce(s, 8, 60, func(who int, _ []record) api.Call {
			if who < 4 {
				return insert(who, "é")
			}
			return drain(1)
		})
		var came []int
		for _, r := range append(slices.Concat(records...), makes(s, drain(1))) {
			if r.reply.Code != 0 {
				t.Fatalf("%+v told %+v", r.call, r.reply)
			}
			for i, m := range r.reply.Messages {
				if m.Whole || i > 0 && m.Version != r.reply.Messages[i-1].Version+1 {
					t.Fatalf("drained %+v", r.reply.Messages)
				}
				came = append(came, m.Version)
			}
		}
		slices.Sort(came)
		for n := range 4 * 60 {
			if len(came) != 4*60 || came[n] != n+2 {
				t.Fatalf("%d came: %v", len(came), came)
			}
		}
	}
}

// P14.1: many write while some close: one of these closes, nothing acts behind it, and each queue tells what it holds.
func TestManyCloseAtOnce(t *testing.T) {
	for round := range 20 {
		s, first := begun(t, 1000)
		s.Do(op(api.Subscribe))
		records := atOnce(s, 8, 40, func(who int, ahead []record) api.Call {
			if len(ahead) == 10+who%3 && who%2 == 0 {
				return op(api.Close)
			}
			return []api.Call{insert(who, "é"), op(api.Snapshot), op(opText), del(who, 1)}[(len(ahead)+who+round)%4]
		})
		all := append(slices.Concat(records...), first)
		p := pastOf(t, all)
		p.checkOrder(t, all)
		end := checkClosedOnce(t, all)
		for _, r := range all {
			if end.ended < r.began && r.call.Op != opText && !sameReply(r.reply, code(api.ErrClosed)) {
				t.Fatalf("%+v told %+v behind Close", r.call, r.reply)
			}
			if r.reply.Code == 0 {
				p.checkReply(t, r, all)
			}
		}
		if end.reply.Version != p.last || s.Text() != p.texts[p.last] {
			t.Fatalf("closed at version %d of %d", end.reply.Version, p.last)
		}
		left := makes(s, drain(1))
		if len(left.reply.Messages) != p.last-1 {
			t.Fatalf("%+v is left", left.reply)
		}
		p.checkQueue(t, 1, 1, 1000, []record{left})
		if r := s.Do(drain(1)); !sameReply(r, code(api.ErrClosed)) {
			t.Fatalf("drained again, %+v", r)
		}
	}
}

// checkClosedOnce asks that one Close closed, all that was refused is ErrClosed, and tells that Close.
func checkClosedOnce(t *testing.T, all []record) record {
	t.Helper()
	var l []record
	for _, r := range all {
		if r.reply.Code != 0 && !sameReply(r.reply, code(api.ErrClosed)) {
			t.Fatalf("%+v told %+v", r.call, r.reply)
		}
		if r.call.Op == api.Close && r.reply.Code == 0 {
			l = append(l, r)
		}
	}
	if len(l) != 1 {
		t.Fatalf("closed by %+v", l)
	}
	return l[0]
}

// P14.1: each call waits till another one, which holds the mutex, has ended. That one doesn't wait is seen if it ends in time; it never seems so of one that does.
func TestEachCallWaits(t *testing.T) {
	s, _ := begun(t, 2)
	s.Do(op(api.Subscribe))
	ops := []int{api.Insert, api.Delete, api.Remote, api.Snapshot, api.Vector, api.Subscribe, api.Drain, opText, opSince, api.Close}
	s.mutex.Lock()
	ended := make(chan int, len(ops))
	for _, n := range ops {
		go func() {
			makes(s, api.Call{Op: n, N: 1})
			ended <- n
		}()
	}
	left := len(ops)
	select {
	case n := <-ended:
		t.Errorf("Op %d didn't wait", n)
		left--
	case <-time.After(100 * time.Millisecond):
	}
	s.mutex.Unlock()
	for range left {
		<-ended
	}
}
