package live

import (
	"slices"
	"strings"
	"testing"
	"unsafe"

	"surcingle/api"
)

// reached holds all memory that was handed in or told, so that none of it is another one's later on.
var reached []any

// handedText is a text whose memory can be written over later on.
func handedText(s string) (string, []byte) {
	memory := []byte(s)
	reached = append(reached, memory)
	return unsafe.String(unsafe.SliceData(memory), len(memory)), memory
}

// spoil writes over memory that was handed in.
func spoil(memory []byte) {
	for k := range memory {
		memory[k] = '#'
	}
}

// replyThen tells the same reply, with lists and texts in other memory.
func replyThen(r api.Reply) api.Reply {
	r.Text = strings.Clone(r.Text)
	r.Clocks = slices.Clone(r.Clocks)
	r.Messages = slices.Clone(r.Messages)
	for i, m := range r.Messages {
		r.Messages[i].Text, r.Messages[i].Edit.Ins = strings.Clone(m.Text), strings.Clone(m.Edit.Ins)
	}
	return r
}

// batchThen tells the same batch, with lists and texts in other memory.
func batchThen(b api.Batch) api.Batch {
	b.Runs, b.Deletes = slices.Clone(b.Runs), slices.Clone(b.Deletes)
	for i, r := range b.Runs {
		b.Runs[i].Text = strings.Clone(r.Text)
	}
	return b
}

// P14.2: texts and bytes that are handed in are neither changed nor kept, whether the call is refused or not: all stays as it is where their memory is no more.
func TestDoKeepsNothing(t *testing.T) {
	m := mixer(11)
	for range 60 {
		x := fresh(t, 1, 100, 1+m.below(6))
		o := newOthers(t, 2, 3)
		for range 120 {
			c := someCall(t, &m, o, x.s)
			want := x.w.do(t, c)
			handed := c
			var memory []byte
			handed.Text, memory = handedText(c.Text)
			handed.Bytes = slices.Clone(c.Bytes)
			got := x.s.Do(handed)
			if string(memory) != c.Text || !slices.Equal(handed.Bytes, c.Bytes) {
				t.Fatalf("Do(%+v) changed what it was handed", c)
			}
			spoil(memory)
			spoil(handed.Bytes)
			if !sameReply(got, want) {
				t.Fatalf("Do(%+v), whose memory is no more, = %+v, want %+v", c, got, want)
			}
			x.stands()
		}
		for n := 1; n <= len(x.w.pushed); n++ {
			x.do(drain(n))
		}
	}
}

// P14.2: nor is a vector that is handed in.
func TestSinceKeepsNothing(t *testing.T) {
	x := fresh(t, 1, 100, 2)
	x.do(insert(0, "abc"))
	x.do(remote(told(t, alone(5, 0, "de"))))
	for _, v := range [][]api.Clock{clocks(1, 2), clocks(1, 3, 5, 1), clocks(2, 4, 5, 2, 7, 9)} {
		handed := slices.Clone(v)
		got := x.s.Since(handed)
		if !slices.Equal(handed, v) {
			t.Fatalf("Since(%v) changed it: %v", v, handed)
		}
		clear(handed)
		if want := x.w.d.Since(v); !sameBatch(got, want) {
			t.Fatalf("Since(%v), which is no more, = %v, want %v", v, got, want)
		}
		x.stands()
	}
}

// P14.2: what is told stays as it is, whatever is called behind it.
func TestWhatIsToldStays(t *testing.T) {
	m := mixer(12)
	for range 40 {
		x := fresh(t, 1, 300, 1+m.below(6))
		o := newOthers(t, 2, 3)
		var now, then []api.Reply
		var nowBatch, thenBatch []api.Batch
		var nowText, thenText []string
		for n := range 200 {
			if n == 170 {
				x.do(op(api.Close))
			}
			r, b, s := x.do(someCall(t, &m, o, x.s)), x.s.Since(nil), x.s.Text()
			now, nowBatch, nowText = append(now, r), append(nowBatch, b), append(nowText, s)
			then, thenBatch, thenText = append(then, replyThen(r)), append(thenBatch, batchThen(b)), append(thenText, strings.Clone(s))
		}
		for n := range now {
			if !sameReply(now[n], then[n]) || !sameBatch(nowBatch[n], thenBatch[n]) || nowText[n] != thenText[n] {
				t.Fatalf("no. %d: it was %+v, %v, and is %+v, %v", n, then[n], thenBatch[n], now[n], nowBatch[n])
			}
		}
	}
}

// P14.2: what is told is the caller's: where it writes into it, up to its end and beyond, the document and its queues stay as they are.
func TestWhatIsToldIsTheCallers(t *testing.T) {
	m := mixer(13)
	for range 40 {
		x := fresh(t, 1, 300, 1+m.below(6))
		o := newOthers(t, 2, 3)
		for range 200 {
			r, b := x.do(someCall(t, &m, o, x.s)), x.s.Since(nil)
			for i := range r.Messages[:cap(r.Messages)] {
				r.Messages[:cap(r.Messages)][i] = whole(-9, "other")
			}
			for i := range r.Clocks[:cap(r.Clocks)] {
				r.Clocks[:cap(r.Clocks)][i] = api.Clock{Client: 9, Next: 9}
			}
			for i := range b.Runs[:cap(b.Runs)] {
				b.Runs[:cap(b.Runs)][i] = alone(9, 9, "other")
			}
			for i := range b.Deletes[:cap(b.Deletes)] {
				b.Deletes[:cap(b.Deletes)][i] = api.Span{Client: 9, From: 9, To: 10}
			}
			x.stands()
		}
		for n := 1; n <= len(x.w.pushed); n++ {
			x.do(drain(n))
		}
	}
}

// owned is all memory of texts and lists that was told, or handed in.
type owned struct {
	t    testing.TB
	seen map[any]string
}

// check asks that memory is new, and from now on it isn't.
func (o *owned) check(memory any, name string) {
	o.t.Helper()
	if other, has := o.seen[memory]; has {
		o.t.Fatalf("the memory of %q is not new: %q", name, other)
	}
	o.seen[memory] = name
	reached = append(reached, memory)
}

func (o *owned) text(s string) {
	o.t.Helper()
	if s != "" {
		o.check(unsafe.StringData(s), s)
	}
}

func (o *owned) reply(r api.Reply) {
	o.t.Helper()
	o.text(r.Text)
	for _, m := range r.Messages {
		o.text(m.Text)
		o.text(m.Edit.Ins)
	}
	if len(r.Messages) > 0 {
		o.check(&r.Messages[0], "messages")
	}
	if len(r.Clocks) > 0 {
		o.check(&r.Clocks[0], "clocks")
	}
}

func (o *owned) batch(b api.Batch) {
	o.t.Helper()
	for _, r := range b.Runs {
		o.text(r.Text)
	}
	if len(b.Runs) > 0 {
		o.check(&b.Runs[0], "runs")
	}
	if len(b.Deletes) > 0 {
		o.check(&b.Deletes[0], "deletes")
	}
}

// P14.2: each text and list that is told has memory of its own: none is told twice, nor was it handed in.
func TestWhatIsToldIsNewMemory(t *testing.T) {
	x := fresh(t, 1, 5000, 3)
	o := &owned{t, map[any]string{}}
	for range 4 {
		x.do(op(api.Subscribe))
	}
	for n := range 40 {
		s, _ := handedText("é long text that is put in")
		o.text(s)
		x.do(insert(n, s))
		b := told(t, alone(7, uint32(9*n), "from afar"))
		o.check(&b[0], "bytes")
		x.do(remote(b))
		x.do(del(n, 1))
		for _, c := range []api.Call{op(api.Snapshot), op(api.Snapshot), op(api.Vector), op(api.Vector), op(api.Subscribe), drain(1), drain(2), drain(3 + n%2)} {
			o.reply(x.do(c))
		}
		for range 2 {
			o.text(x.s.Text())
			o.batch(x.s.Since(nil))
		}
	}
}
