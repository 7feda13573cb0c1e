package live

import (
	"math"
	"slices"
	"testing"

	"surcingle/api"
	"surcingle/batch"
	"surcingle/doc"
)

const lastLimit = math.MaxUint32 - 1

func id(client, clock uint32) api.Id { return api.Id{Client: client, Clock: clock} }

// clocks takes Client, Next, Client, Next and so on.
func clocks(numbers ...uint32) []api.Clock {
	var v []api.Clock
	for i := 0; i < len(numbers); i += 2 {
		v = append(v, api.Clock{Client: numbers[i], Next: numbers[i+1]})
	}
	return v
}

func put(t testing.TB, x api.Batch) []byte {
	t.Helper()
	b, err := batch.Put(x)
	if err != nil {
		t.Fatalf("no bytes of %v: %v", x, err)
	}
	return b
}

// alone is a run between nothing and nothing.
func alone(client, clock uint32, text string) api.Run {
	return api.Run{Id: id(client, clock), Text: text}
}

// told are the bytes of some runs, without Deletes.
func told(t testing.TB, l ...api.Run) []byte {
	t.Helper()
	return put(t, api.Batch{Runs: l})
}

// gone are the bytes of a span that is deleted.
func gone(t testing.TB, client, from, to uint32) []byte {
	t.Helper()
	return put(t, api.Batch{Deletes: []api.Span{{Client: client, From: from, To: to}}})
}

// Calls, short.

func insert(at int, text string) api.Call { return api.Call{Op: api.Insert, At: at, Text: text} }
func del(at, n int) api.Call              { return api.Call{Op: api.Delete, At: at, N: n} }
func remote(b []byte) api.Call            { return api.Call{Op: api.Remote, Bytes: b} }
func drain(n int) api.Call                { return api.Call{Op: api.Drain, N: n} }
func op(n int) api.Call                   { return api.Call{Op: n} }

// Replies and messages, short.

func version(n int) api.Reply        { return api.Reply{Version: n} }
func code(c api.Code) api.Reply      { return api.Reply{Code: int(c)} }
func text(n int, s string) api.Reply { return api.Reply{Version: n, Text: s} }

func sub(number, n int, s string) api.Reply {
	return api.Reply{Sub: number, Version: n, Text: s}
}

func drained(n int, l ...api.Message) api.Reply {
	return api.Reply{Version: n, Messages: l}
}

func changed(n, at, del int, ins string) api.Message {
	return api.Message{Version: n, Edit: api.Edit{At: at, Del: del, Ins: ins}}
}

func whole(n int, s string) api.Message {
	return api.Message{Version: n, Whole: true, Text: s}
}

// sameReply: lists of no elements may be nil or empty.
func sameReply(a, b api.Reply) bool {
	return a.Code == b.Code && a.Version == b.Version && a.Sub == b.Sub && a.Text == b.Text &&
		slices.Equal(a.Clocks, b.Clocks) && slices.Equal(a.Messages, b.Messages)
}

func sameBatch(a, b api.Batch) bool {
	return slices.Equal(a.Runs, b.Runs) && slices.Equal(a.Deletes, b.Deletes)
}

// between tells the change from a text to another one, character by character.
func between(from, to string) api.Edit {
	a, b := []rune(from), []rune(to)
	at := 0
	for len(a) > 0 && len(b) > 0 && a[0] == b[0] {
		a, b, at = a[1:], b[1:], at+1
	}
	for len(a) > 0 && len(b) > 0 && a[len(a)-1] == b[len(b)-1] {
		a, b = a[:len(a)-1], b[:len(b)-1]
	}
	return api.Edit{At: at, Del: len(a), Ins: string(b)}
}

// done tells a text with a change done, character by character.
func done(t testing.TB, s string, e api.Edit) string {
	t.Helper()
	all := []rune(s)
	if e.At < 0 || e.Del < 0 || e.At+e.Del > len(all) {
		t.Fatalf("%+v is no change of %q", e, s)
	}
	return string(all[:e.At]) + e.Ins + string(all[e.At+e.Del:])
}

// words are what the chapter's words make a shared document: a document of layer 11, and of each queue all that it was pushed behind its last Drain, also what found no room.
type words struct {
	d      *doc.Doc
	room   int
	closed bool
	pushed [][]api.Message
}

func (w *words) holds(n int) bool {
	return n >= 1 && n <= len(w.pushed) && len(w.pushed[n-1]) > 0
}

func (w *words) do(t testing.TB, c api.Call) api.Reply {
	t.Helper()
	switch {
	case c.Op < 1 || c.Op > 8:
		return code(api.ErrArg)
	case w.closed && !(c.Op == 7 && w.holds(c.N)):
		return code(api.ErrClosed)
	}
	switch c.Op {
	case 1, 2, 3:
		return w.change(t, c)
	case 4:
		return text(w.d.Version(), w.d.Text())
	case 5:
		return api.Reply{Version: w.d.Version(), Clocks: w.d.Vector()}
	case 6:
		if len(w.pushed) == 100 {
			return code(api.ErrFull)
		}
		w.pushed = append(w.pushed, nil)
		return sub(len(w.pushed), w.d.Version(), w.d.Text())
	case 7:
		return w.drain(c.N)
	}
	w.closed = true
	return version(w.d.Version())
}

func (w *words) change(t testing.TB, c api.Call) api.Reply {
	t.Helper()
	before := w.d.Text()
	var n int
	var err error
	switch c.Op {
	case 1:
		n, err = w.d.Insert(c.At, c.Text)
	case 2:
		n, err = w.d.Delete(c.At, c.N)
	case 3:
		n, err = w.d.Apply(c.Bytes)
	}
	if err != nil {
		f, ok := err.(*api.Fault)
		if !ok {
			t.Fatalf("layer 11 tells %v", err)
		}
		return code(f.Code)
	}
	if after := w.d.Text(); after != before {
		for i := range w.pushed {
			w.pushed[i] = append(w.pushed[i], api.Message{Version: n, Edit: between(before, after)})
		}
	}
	return version(n)
}

func (w *words) drain(n int) api.Reply {
	if n < 1 || n > len(w.pushed) {
		return code(api.ErrRange)
	}
	l := w.pushed[n-1]
	w.pushed[n-1] = nil
	r := drained(w.d.Version(), l...)
	if len(l) > w.room {
		r.Messages = append(slices.Clone(l[:w.room]), whole(w.d.Version(), w.d.Text()))
	}
	return r
}

// both are a shared document, and what the chapter's words make it: each call is made of both, and what is told is held against each other.
type both struct {
	t testing.TB
	s *Shared
	w *words
}

// fresh makes both.
func fresh(t testing.TB, client, limit uint32, room int) *both {
	t.Helper()
	s, err := New(client, limit, room)
	if s == nil || err != nil {
		t.Fatalf("New(%d, %d, %d) = %v, %v", client, limit, room, s, err)
	}
	d, err := doc.New(client, limit)
	if err != nil {
		t.Fatal(err)
	}
	x := &both{t, s, &words{d: d, room: room}}
	x.stands()
	return x
}

// stands asks all that may be asked of a document that is closed, too.
func (x *both) stands() {
	x.t.Helper()
	if got, want := x.s.Text(), x.w.d.Text(); got != want {
		x.t.Fatalf("Text() = %q, want %q", got, want)
	}
	x.since(nil)
	x.since(x.w.d.Vector())
}

func (x *both) since(v []api.Clock) {
	x.t.Helper()
	if got, want := x.s.Since(v), x.w.d.Since(v); !sameBatch(got, want) {
		x.t.Fatalf("Since(%v) = %v, want %v", v, got, want)
	}
}

// do makes a call, and holds the reply against the words'.
func (x *both) do(c api.Call) api.Reply {
	x.t.Helper()
	want := x.w.do(x.t, c)
	got := x.s.Do(c)
	if !sameReply(got, want) {
		x.t.Fatalf("Do(%+v) = %+v, want %+v", c, got, want)
	}
	return got
}

// tells asks that a reply is as the test itself says, too.
func (x *both) tells(c api.Call, want api.Reply) {
	x.t.Helper()
	if got := x.do(c); !sameReply(got, want) {
		x.t.Fatalf("Do(%+v) = %+v, want %+v", c, got, want)
	}
}

// fails asks that a call is refused, telling nothing but the Code, and that all but the queues, which the next Drain shows, is as it was.
func (x *both) fails(c api.Call, want api.Code) {
	x.t.Helper()
	x.tells(c, code(want))
	x.stands()
	if !x.w.closed {
		x.do(op(api.Snapshot))
		x.do(op(api.Vector))
	}
}

// mixer tells numbers that look mixed, the same ones each time.
type mixer uint32

func (m *mixer) below(n int) int {
	*m = *m*1664525 + 1013904223
	return int(uint32(*m)>>8) % n
}
