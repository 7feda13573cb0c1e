package doc

import (
	"cmp"
	"errors"
	"maps"
	"math"
	"slices"
	"strings"
	"testing"
	"unicode/utf8"

	"surcingle/api"
	"surcingle/batch"
	"surcingle/tree"
)

const last = math.MaxUint32

func id(client, clock uint32) api.Id { return api.Id{Client: client, Clock: clock} }

// clocks takes Client, Next, Client, Next and so on.
func clocks(numbers ...uint32) []api.Clock {
	var v []api.Clock
	for i := 0; i < len(numbers); i += 2 {
		v = append(v, api.Clock{Client: numbers[i], Next: numbers[i+1]})
	}
	return v
}

// spans takes Client, From, To, Client, From, To and so on.
func spans(numbers ...uint32) []api.Span {
	var l []api.Span
	for i := 0; i < len(numbers); i += 3 {
		l = append(l, api.Span{Client: numbers[i], From: numbers[i+1], To: numbers[i+2]})
	}
	return l
}

func run(a, left, right api.Id, text string) api.Run {
	return api.Run{Id: a, Left: left, Right: right, Text: text}
}

// alone is a run between nothing and nothing.
func alone(client, clock uint32, text string) api.Run {
	return run(id(client, clock), api.Id{}, api.Id{}, text)
}

func put(t testing.TB, x api.Batch) []byte {
	t.Helper()
	b, err := batch.Put(x)
	if err != nil {
		t.Fatalf("no bytes of %v: %v", x, err)
	}
	return b
}

// told are the bytes of some runs, without Deletes.
func told(t testing.TB, l ...api.Run) []byte {
	t.Helper()
	return put(t, api.Batch{Runs: l})
}

// gone are the bytes of Deletes alone.
func gone(t testing.TB, numbers ...uint32) []byte {
	t.Helper()
	return put(t, api.Batch{Deletes: spans(numbers...)})
}

// words are what the chapter's words make a document: items as they came, and the Ids that are deleted, one by one.
type words struct {
	client, limit uint32
	items         []api.Item
	waiting       []api.Item
	deleted       map[api.Id]bool
	version       int
	closed        bool
}

func (w *words) entries() []api.Entry {
	characters := map[api.Id]rune{}
	for _, i := range w.items {
		characters[i.Id] = i.Ch
	}
	var l []api.Entry
	for _, a := range tree.Order(w.items) {
		l = append(l, api.Entry{Id: a, Ch: characters[a], Gone: w.deleted[a]})
	}
	return l
}

// places are the places of the entries that aren't Gone.
func (w *words) places() []int {
	var told []int
	for at, e := range w.entries() {
		if !e.Gone {
			told = append(told, at)
		}
	}
	return told
}

func (w *words) text() string {
	var text []byte
	for _, e := range w.entries() {
		if !e.Gone {
			text = utf8.AppendRune(text, e.Ch)
		}
	}
	return string(text)
}

// next counts the items that came.
func (w *words) next(client uint32) uint32 {
	n := uint32(0)
	for _, i := range w.items {
		if i.Id.Client == client {
			n++
		}
	}
	return n
}

func (w *words) vector() []api.Clock {
	next := map[uint32]uint32{}
	for _, i := range w.items {
		next[i.Id.Client]++
	}
	var v []api.Clock
	for _, client := range slices.Sorted(maps.Keys(next)) {
		v = append(v, api.Clock{Client: client, Next: next[client]})
	}
	return v
}

func find(l []api.Item, a api.Id) (api.Item, bool) {
	for _, i := range l {
		if i.Id == a {
			return i, true
		}
	}
	return api.Item{}, false
}

func rises(a, b api.Id) int {
	return cmp.Or(cmp.Compare(a.Client, b.Client), cmp.Compare(a.Clock, b.Clock))
}

func itemsRise(x, y api.Item) int { return rises(x.Id, y.Id) }

// between is what stands on both sides of a place that there is.
func (w *words) between(k int) (left, right api.Id) {
	l, behind := w.entries(), 0
	if k > 0 {
		at := w.places()[k-1]
		left, behind = l[at].Id, at+1
	}
	if behind < len(l) {
		right = l[behind].Id
	}
	return left, right
}

func (w *words) insert(at int, text string) (int, api.Code) {
	characters := []rune(text)
	switch {
	case w.closed:
		return 0, api.ErrClosed
	case strings.ToValidUTF8(text, "") != text:
		return 0, api.ErrArg
	case at < 0 || at > len(w.places()):
		return 0, api.ErrRange
	case int64(w.next(w.client))+int64(len(characters)) > int64(w.limit)+1:
		return 0, api.ErrClock
	}
	left, right := w.between(at)
	clock := w.next(w.client)
	for _, ch := range characters {
		i := api.Item{Id: id(w.client, clock), Left: left, Right: right, Ch: ch}
		w.items = append(w.items, i)
		left, clock = i.Id, clock+1
	}
	if len(characters) > 0 {
		w.version++
	}
	return w.version, 0
}

func (w *words) delete(at, n int) (int, api.Code) {
	places := w.places()
	switch {
	case w.closed:
		return 0, api.ErrClosed
	case at < 0 || n < 0 || at > len(places) || n > len(places)-at:
		return 0, api.ErrRange
	}
	l := w.entries()
	for _, place := range places[at : at+n] {
		w.deleted[l[place].Id] = true
	}
	if n > 0 {
		w.version++
	}
	return w.version, 0
}

// itemsOf tells the items of runs, one by one.
func itemsOf(l []api.Run) []api.Item {
	var told []api.Item
	for _, r := range l {
		a, left := r.Id, r.Left
		for _, ch := range r.Text {
			told = append(told, api.Item{Id: a, Left: left, Right: r.Right, Ch: ch})
			left = a
			a.Clock++
		}
	}
	return told
}

func idsOf(l []api.Span) []api.Id {
	var told []api.Id
	for _, s := range l {
		for clock := s.From; clock < s.To; clock++ {
			told = append(told, id(s.Client, clock))
		}
	}
	return told
}

func (w *words) ready(x api.Item) bool {
	fine := func(a api.Id) bool { return a.Client == 0 || a.Clock < w.next(a.Client) }
	return x.Id.Clock == w.next(x.Id.Client) && fine(x.Left) && fine(x.Right)
}

func (w *words) clone() *words {
	told := *w
	told.items, told.waiting, told.deleted = slices.Clone(w.items), slices.Clone(w.waiting), maps.Clone(w.deleted)
	return &told
}

func (w *words) apply(b []byte) (int, api.Code) {
	if w.closed {
		return 0, api.ErrClosed
	}
	x, err := batch.Get(b)
	if err != nil {
		return 0, api.ErrMalformed
	}
	then, changed := w.clone(), false
	for _, i := range itemsOf(x.Runs) {
		other, has := find(w.items, i.Id)
		if !has && i.Id.Client == w.client {
			return 0, api.ErrMalformed
		}
		if !has {
			other, has = find(w.waiting, i.Id)
		}
		if has && other != i {
			return 0, api.ErrMalformed
		}
		if !has {
			then.waiting = append(then.waiting, i)
			changed = true
		}
	}
	slices.SortFunc(then.waiting, itemsRise)
	for {
		n := slices.IndexFunc(then.waiting, then.ready)
		if n < 0 {
			break
		}
		then.items = append(then.items, then.waiting[n])
		then.waiting = slices.Delete(then.waiting, n, n+1)
		changed = true
	}
	if len(then.waiting) > 1000 {
		return 0, api.ErrFull
	}
	for _, a := range idsOf(x.Deletes) {
		changed = changed || !then.deleted[a]
		then.deleted[a] = true
	}
	if changed {
		then.version++
	}
	*w = *then
	return w.version, 0
}

func (w *words) close() api.Code {
	if w.closed {
		return api.ErrClosed
	}
	w.closed = true
	return 0
}

// nextOf goes through all of a vector.
func nextOf(v []api.Clock, client uint32) uint32 {
	for _, c := range v {
		if c.Client == client {
			return c.Next
		}
	}
	return 0
}

func (w *words) since(v []api.Clock) api.Batch {
	var x api.Batch
	l := slices.Clone(w.items)
	slices.SortFunc(l, itemsRise)
	var ahead api.Item
	for _, i := range l {
		if i.Id.Clock < nextOf(v, i.Id.Client) {
			continue
		}
		if ahead.Id.Client != 0 && i.Id == id(ahead.Id.Client, ahead.Id.Clock+1) && i.Left == ahead.Id && i.Right == ahead.Right {
			x.Runs[len(x.Runs)-1].Text += string(i.Ch)
		} else {
			x.Runs = append(x.Runs, run(i.Id, i.Left, i.Right, string(i.Ch)))
		}
		ahead = i
	}
	for _, a := range slices.SortedFunc(maps.Keys(w.deleted), rises) {
		if n := len(x.Deletes) - 1; n >= 0 && x.Deletes[n].Client == a.Client && x.Deletes[n].To == a.Clock {
			x.Deletes[n].To++
		} else {
			x.Deletes = append(x.Deletes, api.Span{Client: a.Client, From: a.Clock, To: a.Clock + 1})
		}
	}
	return x
}

func sameBatch(a, b api.Batch) bool {
	return slices.Equal(a.Runs, b.Runs) && slices.Equal(a.Deletes, b.Deletes)
}

// checkFault asks that an error is a pointer to a Fault, with that name and Code; of Code 0, that there is none.
func checkFault(t testing.TB, err error, op string, code api.Code) {
	t.Helper()
	if code == 0 {
		if err != nil {
			t.Fatalf("%s: error %v", op, err)
		}
		return
	}
	f, ok := err.(*api.Fault)
	if !ok || f == nil || *f != (api.Fault{Op: op, Code: code}) {
		t.Fatalf("error %#v, want %s, %v", err, op, code)
	}
	var as *api.Fault
	if !errors.As(err, &as) || as != f {
		t.Fatalf("errors.As finds %v in %v", as, err)
	}
	for c := api.Code(0); c <= api.ErrClosed+1; c++ {
		if errors.Is(err, c) != (c == code) {
			t.Fatalf("errors.Is(%v, %v) = %v", err, c, !errors.Is(err, c))
		}
	}
}

// both are a document, and what the chapter's words make it: each call is made of both, and both are held against each other behind it.
type both struct {
	t testing.TB
	d *Doc
	w *words
}

func open(t testing.TB, client, limit uint32) *both {
	t.Helper()
	d, err := New(client, limit)
	if err != nil || d == nil {
		t.Fatalf("New(%d, %d) = %v, %v", client, limit, d, err)
	}
	x := &both{t, d, &words{client: client, limit: limit, deleted: map[api.Id]bool{}}}
	x.check()
	return x
}

// check asks all that a document tells.
func (x *both) check() {
	x.t.Helper()
	d, w := x.d, x.w
	if got, want := d.Text(), w.text(); got != want {
		x.t.Fatalf("Text() = %q, want %q", got, want)
	}
	if got, want := d.Vector(), w.vector(); !slices.Equal(got, want) {
		x.t.Fatalf("Vector() = %v, want %v", got, want)
	}
	if got, want := d.Version(), w.version; got != want {
		x.t.Fatalf("Version() = %d, want %d", got, want)
	}
	if got, want := d.Waiting(), len(w.waiting); got != want {
		x.t.Fatalf("Waiting() = %d, want %d", got, want)
	}
	own := w.vector()
	half := slices.Clone(own)
	for i := range half {
		half[i].Next = (half[i].Next + 1) / 2
	}
	for _, v := range [][]api.Clock{nil, own, half} {
		x.since(v)
	}
}

func (x *both) since(v []api.Clock) {
	x.t.Helper()
	if got, want := x.d.Since(v), x.w.since(v); !sameBatch(got, want) {
		x.t.Fatalf("Since(%v) = %v, want %v", v, got, want)
	}
}

// came holds against each other what a call told of both.
func (x *both) came(op string, n int, err error, want int, code api.Code) int {
	x.t.Helper()
	checkFault(x.t, err, op, code)
	if n != want {
		x.t.Fatalf("%s: version %d, want %d", op, n, want)
	}
	x.check()
	return n
}

func (x *both) insert(at int, text string) int {
	x.t.Helper()
	n, err := x.d.Insert(at, text)
	want, code := x.w.insert(at, text)
	return x.came("Insert", n, err, want, code)
}

func (x *both) delete(at, count int) int {
	x.t.Helper()
	n, err := x.d.Delete(at, count)
	want, code := x.w.delete(at, count)
	return x.came("Delete", n, err, want, code)
}

func (x *both) apply(b []byte) int {
	x.t.Helper()
	n, err := x.d.Apply(b)
	want, code := x.w.apply(b)
	return x.came("Apply", n, err, want, code)
}

func (x *both) close() {
	x.t.Helper()
	err := x.d.Close()
	x.came("Close", 0, err, 0, x.w.close())
}

// fails asks that a call on the document alone fails with a Code, and that all is as it was.
func (x *both) fails(op string, code api.Code, call func(d *Doc) (int, error)) {
	x.t.Helper()
	n, err := call(x.d)
	x.came(op, n, err, 0, code)
}

func (x *both) failsInsert(code api.Code, at int, text string) {
	x.t.Helper()
	x.fails("Insert", code, func(d *Doc) (int, error) { return d.Insert(at, text) })
}

func (x *both) failsDelete(code api.Code, at, n int) {
	x.t.Helper()
	x.fails("Delete", code, func(d *Doc) (int, error) { return d.Delete(at, n) })
}

func (x *both) failsApply(code api.Code, b []byte) {
	x.t.Helper()
	x.fails("Apply", code, func(d *Doc) (int, error) { return d.Apply(b) })
}

// stands asks that a document is as the test itself says.
func (x *both) stands(text string, version, waiting int, v ...uint32) {
	x.t.Helper()
	d := x.d
	if d.Text() != text || d.Version() != version || d.Waiting() != waiting || !slices.Equal(d.Vector(), clocks(v...)) {
		x.t.Fatalf("the document stands at %q, %d, %d, %v, want %q, %d, %d, %v", d.Text(), d.Version(), d.Waiting(), d.Vector(), text, version, waiting, clocks(v...))
	}
}

// tells asks that all the document has to tell is as the test itself says.
func (x *both) tells(l []api.Run, deletes ...uint32) {
	x.t.Helper()
	if got, want := x.d.Since(nil), (api.Batch{Runs: l, Deletes: spans(deletes...)}); !sameBatch(got, want) {
		x.t.Fatalf("the document tells %v, want %v", got, want)
	}
}

// mixer tells numbers that look mixed, the same ones each time.
type mixer uint32

func (m *mixer) below(n int) int {
	*m = *m*1664525 + 1013904223
	return int(*m>>8) % n
}

func mix[T any](m *mixer, l []T) []T {
	told := slices.Clone(l)
	for i := range told {
		k := m.below(i + 1)
		told[i], told[k] = told[k], told[i]
	}
	return told
}

// eachOrder hands in a list in all its orders.
func eachOrder[T any](l []T, call func(l []T)) {
	if len(l) < 2 {
		call(slices.Clone(l))
		return
	}
	for i, x := range l {
		eachOrder(slices.Delete(slices.Clone(l), i, i+1), func(others []T) {
			call(append([]T{x}, others...))
		})
	}
}
