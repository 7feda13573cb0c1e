package live

import (
	"math"
	"testing"

	"surcingle/api"
	"surcingle/batch"
	"surcingle/doc"
)

// others are replicas of the same text, which write it too, and the batches that they told.
type others struct {
	l       []*doc.Doc
	batches [][]byte
}

func newOthers(t testing.TB, clients ...uint32) *others {
	t.Helper()
	o := &others{}
	for _, client := range clients {
		d, err := doc.New(client, lastLimit)
		if err != nil {
			t.Fatal(err)
		}
		o.l = append(o.l, d)
	}
	return o
}

// write lets one of them write, or take what the shared document has, and tell the one or the other of it.
func (o *others) write(t testing.TB, m *mixer, s *Shared) {
	t.Helper()
	d := o.l[m.below(len(o.l))]
	before := d.Vector()
	count := len([]rune(d.Text()))
	switch m.below(4) {
	case 0:
		if count > 0 {
			at := m.below(count)
			d.Delete(at, 1+m.below(count-at))
		}
	case 1:
		d.Apply(put(t, s.Since(before)))
	default:
		d.Insert(m.below(count+1), someText(m, 3))
	}
	if m.below(3) == 0 {
		before = nil
	}
	if b, err := batch.Put(d.Since(before)); err == nil {
		o.batches = append(o.batches, b)
	}
}

// some tells one of the batches, which may be one that was told already, or ahead of others that it needs.
func (o *others) some(m *mixer) []byte {
	if len(o.batches) == 0 {
		return nil
	}
	n := len(o.batches)
	return o.batches[max(n-1-m.below(12), m.below(n))]
}

// someText has few unlike characters, so that changes may stand at several places.
func someText(m *mixer, most int) string {
	var l []rune
	for range 1 + m.below(most) {
		l = append(l, []rune{'a', 'a', 'b', 'é', '世', 0x1f642}[m.below(6)])
	}
	return string(l)
}

// someCall tells a call that may be one of each kind, right or wrong.
func someCall(t testing.TB, m *mixer, o *others, s *Shared) api.Call {
	t.Helper()
	count := len([]rune(s.Text()))
	switch m.below(20) {
	case 0, 1, 2, 3, 4:
		return insert(m.below(count+1), someText(m, 4))
	case 5, 6, 7:
		at := m.below(count + 1)
		return del(at, m.below(min(count-at, 6)+1))
	case 8, 9, 10, 11:
		o.write(t, m, s)
		return remote(o.some(m))
	case 12:
		return op(api.Snapshot)
	case 13:
		return op(api.Vector)
	case 14:
		return op(api.Subscribe)
	case 15, 16, 17:
		return drain(m.below(12))
	case 18:
		return insert(m.below(count+4)-2, []string{"", "\xff", "a"}[m.below(3)])
	}
	return api.Call{Op: m.below(8), At: m.below(9) - 4, N: m.below(9) - 4, Bytes: []byte{byte(m.below(3))}}
}

// P14.1: mixed calls, closed or not, each held against the words, with looks at the document between, or none.
func TestMixedCalls(t *testing.T) {
	m := mixer(1)
	for round := range 120 {
		limit := []uint32{20, 200, lastLimit}[round%3]
		x := fresh(t, 1, limit, 1+m.below([]int{2, 8, 1000}[m.below(3)]))
		o := newOthers(t, 2, math.MaxUint32)
		for range 150 {
			x.do(someCall(t, &m, o, x.s))
			if round%2 == 0 {
				x.stands()
			}
		}
		x.do(op(api.Close))
		for range 40 {
			x.do(someCall(t, &m, o, x.s))
		}
		x.stands()
		for n := range 101 {
			x.do(drain(n))
			x.do(drain(n))
		}
	}
}

// subscriber is one who holds a text, and does the changes of which it is told.
type subscriber struct {
	text    string
	version int
}

// take does what a Drain told; each change is to be the text of its version, by all versions that there were.
func (b *subscriber) take(t testing.TB, r api.Reply, texts map[int]string) {
	t.Helper()
	for i, m := range r.Messages {
		if m.Version <= b.version && !m.Whole || m.Version > r.Version {
			t.Fatalf("version %d behind %d, told at %d", m.Version, b.version, r.Version)
		}
		if m.Whole {
			if i != len(r.Messages)-1 || m.Version != r.Version {
				t.Fatalf("a Whole of version %d, no. %d of %d", m.Version, i, len(r.Messages))
			}
			b.text = m.Text
		} else {
			b.text = done(t, b.text, m.Edit)
		}
		b.version = m.Version
		if want, known := texts[m.Version]; !known || b.text != want {
			t.Fatalf("version %d: the text is %q, the subscriber has %q", m.Version, want, b.text)
		}
	}
	if b.text != texts[r.Version] {
		t.Fatalf("drained at version %d: the text is %q, the subscriber has %q", r.Version, texts[r.Version], b.text)
	}
}

// P14.3, T2: of each subscriber, by small rooms and great ones, drained often or seldom, each change done is the text of its version, and a gap ends with a Whole.
func TestEachChangeDoneIsTheText(t *testing.T) {
	m := mixer(2)
	for range 150 {
		s, err := New(1, 300, []int{1, 2, 5, 1000}[m.below(4)])
		if err != nil {
			t.Fatal(err)
		}
		o := newOthers(t, 2, 3)
		texts := map[int]string{0: ""}
		var all []*subscriber
		for range 200 {
			c := someCall(t, &m, o, s)
			r := s.Do(c)
			if r.Code != 0 {
				continue
			}
			texts[r.Version] = s.Text()
			switch c.Op {
			case api.Subscribe:
				all = append(all, &subscriber{r.Text, r.Version})
			case api.Drain:
				all[c.N-1].take(t, r, texts)
			}
		}
		s.Do(op(api.Close))
		for n, b := range all {
			if r := s.Do(drain(n + 1)); r.Code == 0 {
				b.take(t, r, texts)
			}
			if b.text != s.Text() {
				t.Fatalf("subscriber %d ends with %q, the text is %q", n+1, b.text, s.Text())
			}
		}
	}
}

// P14.3: whoever subscribes late, or twice, goes on from the text then.
func TestSubscribersOfAllVersions(t *testing.T) {
	m := mixer(3)
	for range 20 {
		s, err := New(1, 1000, 1000)
		if err != nil {
			t.Fatal(err)
		}
		texts := map[int]string{0: ""}
		var all []*subscriber
		for n := range 100 {
			r := s.Do(op(api.Subscribe))
			if r.Sub != n+1 || r.Text != texts[r.Version] {
				t.Fatalf("Subscribe tells %+v", r)
			}
			all = append(all, &subscriber{r.Text, r.Version})
			c := insert(m.below(len([]rune(r.Text))+1), someText(&m, 3))
			if n%3 == 2 {
				c = del(0, 1+m.below(2))
			}
			texts[s.Do(c).Version] = s.Text()
		}
		for n, b := range all {
			r := s.Do(drain(n + 1))
			if len(r.Messages) != len(all)-n {
				t.Fatalf("subscriber %d is told %d messages", n+1, len(r.Messages))
			}
			b.take(t, r, texts)
		}
	}
}
