package batch

import (
	"bytes"
	"math"
	"slices"
	"strings"
	"testing"

	"surcingle/api"
)

const last = math.MaxUint32

func id(client, clock uint32) api.Id { return api.Id{Client: client, Clock: clock} }

func run(a, left, right api.Id, text string) api.Run {
	return api.Run{Id: a, Left: left, Right: right, Text: text}
}

// alone has a run as the only one, and no Deletes.
func alone(r api.Run) api.Batch { return api.Batch{Runs: []api.Run{r}} }

// spans takes Client, From, To, Client, From, To and so on.
func spans(numbers ...uint32) []api.Span {
	var l []api.Span
	for i := 0; i < len(numbers); i += 3 {
		l = append(l, api.Span{Client: numbers[i], From: numbers[i+1], To: numbers[i+2]})
	}
	return l
}

// deleting has no Runs.
func deleting(numbers ...uint32) api.Batch { return api.Batch{Deletes: spans(numbers...)} }

func same(x, y api.Batch) bool {
	return slices.Equal(x.Runs, y.Runs) && slices.Equal(x.Deletes, y.Deletes)
}

// runByWords counts runes: bytes that are no character become one of three bytes.
func runByWords(r api.Run) bool {
	chars := []rune(r.Text)
	return r.Id.Client != 0 && len(chars) > 0 && string(chars) == r.Text && uint64(r.Id.Clock)+uint64(len(chars)) <= last
}

// itemsByWords makes each item out of its place in the run.
func itemsByWords(r api.Run) []api.Item {
	var l []api.Item
	for i, ch := range []rune(r.Text) {
		x := api.Item{Id: id(r.Id.Client, r.Id.Clock+uint32(i)), Left: r.Left, Right: r.Right, Ch: ch}
		if i > 0 {
			x.Left = id(r.Id.Client, r.Id.Clock+uint32(i)-1)
		}
		l = append(l, x)
	}
	return l
}

func risesByWords(a, b api.Id) bool {
	return a.Client < b.Client || a.Client == b.Client && a.Clock < b.Clock
}

func goesOnByWords(ahead, x api.Item) bool {
	next := uint64(ahead.Id.Clock) + 1
	return x.Id.Client == ahead.Id.Client && uint64(x.Id.Clock) == next && next < last && x.Left == ahead.Id && x.Right == ahead.Right
}

// runsByWords holds each item against the one ahead of it.
func runsByWords(l []api.Run) bool {
	var ahead []api.Item
	for _, r := range l {
		if !runByWords(r) {
			return false
		}
		for i, x := range itemsByWords(r) {
			end := len(ahead) - 1
			if end >= 0 && !risesByWords(ahead[end].Id, x.Id) || end >= 0 && i == 0 && goesOnByWords(ahead[end], x) {
				return false
			}
			ahead = append(ahead, x)
		}
	}
	return true
}

// setByWords holds each span against all that come later.
func setByWords(l []api.Span) bool {
	for i, a := range l {
		if a.Client == 0 || a.From >= a.To {
			return false
		}
		for _, b := range l[i+1:] {
			if a.Client > b.Client || a.Client == b.Client && a.To >= b.From {
				return false
			}
		}
	}
	return true
}

func mayByWords(x api.Batch) bool { return runsByWords(x.Runs) && setByWords(x.Deletes) }

// piece is what bytes are made of: a number, or, behind its size, a text's bytes.
type piece struct {
	v      uint32
	text   string
	isText bool
}

// pieces are those of a batch, whether it may be or not.
func pieces(x api.Batch) []piece {
	var l []piece
	numbers := func(all ...uint32) {
		for _, v := range all {
			l = append(l, piece{v: v})
		}
	}
	numbers(uint32(len(x.Runs)))
	for _, r := range x.Runs {
		numbers(r.Id.Client, r.Id.Clock, r.Left.Client, r.Left.Clock, r.Right.Client, r.Right.Clock, uint32(len(r.Text)))
		l = append(l, piece{text: r.Text, isText: true})
	}
	numbers(uint32(len(x.Deletes)))
	for _, s := range x.Deletes {
		numbers(s.Client, s.From, s.To)
	}
	return l
}

// bytesOf writes a number by dividing it, from its lowest byte on.
func (p piece) bytesOf() []byte {
	if p.isText {
		return []byte(p.text)
	}
	var digits []byte
	for rest := p.v; rest > 0; rest /= 256 {
		digits = append(digits, byte(rest%256))
	}
	slices.Reverse(digits)
	return append([]byte{byte(len(digits))}, digits...)
}

func write(l []piece) []byte {
	var b []byte
	for _, p := range l {
		b = append(b, p.bytesOf()...)
	}
	return b
}

func putByWords(x api.Batch) []byte { return write(pieces(x)) }

// loose reads bytes as they come, right or wrong, and too few of them at the end.
type loose struct{ b []byte }

func (l *loose) take(n uint32) []byte {
	if uint64(n) > uint64(len(l.b)) {
		n = uint32(len(l.b))
	}
	told := l.b[:n]
	l.b = l.b[n:]
	return told
}

func (l *loose) number() uint32 {
	v := uint32(0)
	for _, head := range l.take(1) {
		for _, x := range l.take(uint32(head)) {
			v = v<<8 + uint32(x)
		}
	}
	return v
}

func (l *loose) id() api.Id {
	client := l.number()
	return id(client, l.number())
}

// getByWords guesses a batch, of which alone the bytes can be, and looks whether they are.
func getByWords(b []byte) (api.Batch, bool) {
	var x api.Batch
	l := loose{b}
	for n := l.number(); n > 0 && len(l.b) > 0; n-- {
		a, left, right := l.id(), l.id(), l.id()
		x.Runs = append(x.Runs, run(a, left, right, string(l.take(l.number()))))
	}
	for n := l.number(); n > 0 && len(l.b) > 0; n-- {
		a := l.id()
		x.Deletes = append(x.Deletes, api.Span{Client: a.Client, From: a.Clock, To: l.number()})
	}
	if len(b) > 20000 || !mayByWords(x) || !bytes.Equal(putByWords(x), b) {
		return api.Batch{}, false
	}
	return x, true
}

// checkRefused asks that bytes are no batch's.
func checkRefused(t *testing.T, name string, b []byte) {
	t.Helper()
	if x, err := Get(b); len(x.Runs)+len(x.Deletes) != 0 || err != api.ErrMalformed {
		t.Errorf("%s: Get(%v) = %v, %v, want ErrMalformed", name, b[:min(len(b), 200)], x, err)
	}
}

// checkGet asks of bytes what the document's words say, and that what is got, put, is those bytes (P6.3); it tells whether there was a batch.
func checkGet(t *testing.T, b []byte) bool {
	t.Helper()
	want, ok := getByWords(b)
	x, err := Get(b)
	if !same(x, want) || (err == nil) != ok || !ok && err != api.ErrMalformed {
		t.Errorf("Get(%v) = %v, %v, want %v, %v", b, x, err, want, ok)
	}
	if again, err := Put(x); ok && (err != nil || !bytes.Equal(again, b)) {
		t.Errorf("Put of Get(%v) = %v, %v", b, again, err)
	}
	return ok
}

// check asks of a batch what the document's words say of all three calls, and that what was put is got (P6.3); it tells whether it may be.
func check(t *testing.T, x api.Batch) bool {
	t.Helper()
	may, want := mayByWords(x), putByWords(x)
	if got := May(x); got != may {
		t.Errorf("May(%v) = %v, want %v", x, got, may)
	}
	b, err := Put(x)
	if !may || len(want) > 20000 {
		if len(b) != 0 || err != api.ErrArg {
			t.Errorf("Put(%v) = %v, %v, want ErrArg", x, b, err)
		}
		checkRefused(t, "of what isn't put", want)
		return may
	}
	if !bytes.Equal(b, want) || err != nil {
		t.Errorf("Put(%v) = %v, %v, want %v", x, b, err, want)
	}
	if got, err := Get(want); !same(got, x) || err != nil {
		t.Errorf("Get(%v) = %v, %v, want %v", want, got, err, x)
	}
	return may
}

// mixer tells numbers that look mixed, the same ones each time.
type mixer uint32

func (m *mixer) below(n int) int {
	*m = *m*1664525 + 1013904223
	return int(*m>>8) % n
}

// written is a batch, with its bytes written out.
type written struct {
	name string
	x    api.Batch
	b    []byte
}

// samples may be: what the document names, edges, and runs that almost go on.
func samples() []written {
	none, left, right := api.Id{}, id(9, 9), id(8, 8)
	return []written{
		{"nothing", api.Batch{}, []byte{0, 0}},
		{"lists of nothing", api.Batch{Runs: []api.Run{}, Deletes: []api.Span{}}, []byte{0, 0}},
		{"one run", alone(run(id(1, 0), none, none, "a")), []byte{1, 1, 1, 1, 0, 0, 0, 0, 0, 1, 1, 'a', 0}},
		{"one span", deleting(1, 0, 2), []byte{0, 1, 1, 1, 1, 0, 1, 2}},
		{"both, each number another one", api.Batch{Runs: []api.Run{run(id(1, 2), id(3, 4), id(5, 6), "abcdefg")}, Deletes: spans(8, 9, 10)},
			[]byte{1, 1, 1, 1, 1, 2, 1, 3, 1, 4, 1, 5, 1, 6, 1, 7, 'a', 'b', 'c', 'd', 'e', 'f', 'g', 1, 1, 1, 8, 1, 9, 1, 10}},
		{"numbers of each count of bytes", api.Batch{Runs: []api.Run{run(id(256, 65536), id(1<<24, last), id(255, 0), "é")}, Deletes: spans(last, 65535, 1<<24-1)},
			[]byte{1, 1, 2, 1, 0, 3, 1, 0, 0, 4, 1, 0, 0, 0, 4, 255, 255, 255, 255, 1, 255, 0, 1, 2, 0xc3, 0xa9, 1, 1, 4, 255, 255, 255, 255, 2, 255, 255, 3, 255, 255, 255}},
		{"each length of character", alone(run(id(1, 0), none, none, "aé€😀")),
			[]byte{1, 1, 1, 1, 0, 0, 0, 0, 0, 1, 10, 'a', 0xc3, 0xa9, 0xe2, 0x82, 0xac, 0xf0, 0x9f, 0x98, 0x80, 0}},
		{"Left and Right of nothing, with Clocks", alone(run(id(1, 0), id(0, 1), id(0, 2), "a")),
			[]byte{1, 1, 1, 1, 0, 0, 1, 1, 0, 1, 2, 1, 1, 'a', 0}},
		{"up to the last Clock", alone(run(id(last, last-2), none, none, "ab")),
			[]byte{1, 1, 4, 255, 255, 255, 255, 4, 255, 255, 255, 253, 0, 0, 0, 0, 1, 2, 'a', 'b', 0}},
		{"the greatest span", deleting(last, 0, last),
			[]byte{0, 1, 1, 4, 255, 255, 255, 255, 0, 4, 255, 255, 255, 255}},
		{"another Left", api.Batch{Runs: []api.Run{run(id(1, 5), left, right, "a"), run(id(1, 6), left, right, "b")}},
			[]byte{1, 2, 1, 1, 1, 5, 1, 9, 1, 9, 1, 8, 1, 8, 1, 1, 'a', 1, 1, 1, 6, 1, 9, 1, 9, 1, 8, 1, 8, 1, 1, 'b', 0}},
		{"another Right", api.Batch{Runs: []api.Run{run(id(1, 5), left, right, "a"), run(id(1, 6), id(1, 5), none, "b")}},
			[]byte{1, 2, 1, 1, 1, 5, 1, 9, 1, 9, 1, 8, 1, 8, 1, 1, 'a', 1, 1, 1, 6, 1, 1, 1, 5, 0, 0, 1, 1, 'b', 0}},
		{"a Clock is left out", api.Batch{Runs: []api.Run{run(id(1, 5), left, right, "a"), run(id(1, 7), id(1, 5), right, "b")}},
			[]byte{1, 2, 1, 1, 1, 5, 1, 9, 1, 9, 1, 8, 1, 8, 1, 1, 'a', 1, 1, 1, 7, 1, 1, 1, 5, 1, 8, 1, 8, 1, 1, 'b', 0}},
		{"another Client, Clock 0", api.Batch{Runs: []api.Run{run(id(1, 5), left, right, "a"), run(id(2, 0), id(1, 5), right, "b")}},
			[]byte{1, 2, 1, 1, 1, 5, 1, 9, 1, 9, 1, 8, 1, 8, 1, 1, 'a', 1, 2, 0, 1, 1, 1, 5, 1, 8, 1, 8, 1, 1, 'b', 0}},
		{"goes on but from the first one of two", api.Batch{Runs: []api.Run{run(id(1, 5), left, right, "ab"), run(id(1, 7), id(1, 5), right, "c")}},
			[]byte{1, 2, 1, 1, 1, 5, 1, 9, 1, 9, 1, 8, 1, 8, 1, 2, 'a', 'b', 1, 1, 1, 7, 1, 1, 1, 5, 1, 8, 1, 8, 1, 1, 'c', 0}},
		{"spans with a clock between, and of two clients", deleting(1, 0, 2, 1, 3, 4, 2, 4, 5),
			[]byte{0, 1, 3, 1, 1, 0, 1, 2, 1, 1, 1, 3, 1, 4, 1, 2, 1, 4, 1, 5}},
		{"a deleted one that is told, too", api.Batch{Runs: []api.Run{run(id(1, 0), none, none, "a")}, Deletes: spans(1, 0, 1)},
			[]byte{1, 1, 1, 1, 0, 0, 0, 0, 0, 1, 1, 'a', 1, 1, 1, 1, 0, 1, 1}},
	}
}

// P6.1 and P6.3: bytes that are written out, those of the document's example first.
func TestBytesOfBatches(t *testing.T) {
	for _, c := range samples() {
		if !May(c.x) {
			t.Errorf("%s: May is false", c.name)
		}
		if b, err := Put(c.x); !bytes.Equal(b, c.b) || err != nil {
			t.Errorf("%s: Put = %v, %v, want %v", c.name, b, err, c.b)
		}
		if x, err := Get(c.b); !same(x, c.x) || err != nil {
			t.Errorf("%s: Get = %v, %v, want %v", c.name, x, err, c.x)
		}
		if !check(t, c.x) || !checkGet(t, c.b) {
			t.Errorf("%s: by the words it may not be", c.name)
		}
	}
}

// refused are batches, one each of what may not be.
func refused() map[string]api.Batch {
	none, left, right := api.Id{}, id(9, 9), id(8, 8)
	two := func(a, b api.Run) api.Batch { return api.Batch{Runs: []api.Run{a, b}} }
	return map[string]api.Batch{
		"the zero run":                         alone(api.Run{}),
		"a run of Client 0":                    alone(run(id(0, 1), none, none, "a")),
		"a run of no character":                alone(run(id(1, 0), none, none, "")),
		"a run beyond the last Clock":          alone(run(id(1, last), none, none, "a")),
		"a run that reaches beyond it":         alone(run(id(1, last-2), none, none, "abc")),
		"a Text of a byte alone":               alone(run(id(1, 0), none, none, "\xff")),
		"a Text cut within a character":        alone(run(id(1, 0), none, none, "a\xc3")),
		"a Text with a surrogate":              alone(run(id(1, 0), none, none, "\xed\xa0\x80")),
		"the second run of no character":       two(run(id(1, 0), none, none, "a"), run(id(1, 5), none, none, "")),
		"the first run of no character":        two(run(id(1, 0), none, none, ""), run(id(1, 5), none, none, "a")),
		"the second run of Client 0":           two(run(id(1, 0), none, none, "a"), run(id(0, 5), none, none, "a")),
		"a run again":                          two(run(id(1, 0), none, none, "a"), run(id(1, 0), none, none, "a")),
		"runs that fall by Clock":              two(run(id(1, 5), none, none, "a"), run(id(1, 0), none, none, "a")),
		"runs that fall by Client":             two(run(id(2, 0), none, none, "a"), run(id(1, 5), none, none, "a")),
		"runs that overlap":                    two(run(id(1, 0), none, none, "ab"), run(id(1, 1), none, none, "c")),
		"runs that overlap, by more bytes":     two(run(id(1, 0), none, none, "é€"), run(id(1, 1), none, none, "c")),
		"a run within the one ahead":           two(run(id(1, 0), none, none, "abcd"), run(id(1, 1), none, none, "c")),
		"a run that goes on":                   two(run(id(1, 5), left, right, "a"), run(id(1, 6), id(1, 5), right, "b")),
		"a run that goes on from a longer one": two(run(id(1, 5), left, right, "aé€"), run(id(1, 8), id(1, 7), right, "bc")),
		"goes on, Rights of nothing":           two(run(id(1, 5), left, none, "a"), run(id(1, 6), id(1, 5), none, "b")),
		"goes on, up to the last Clock":        two(run(id(1, last-2), left, right, "a"), run(id(1, last-1), id(1, last-2), right, "b")),
		"goes on, at Clock 0":                  two(run(id(1, 0), none, none, "a"), run(id(1, 1), id(1, 0), none, "b")),
		"the third run goes on":                {Runs: []api.Run{run(id(1, 0), none, none, "a"), run(id(2, 0), none, none, "b"), run(id(2, 1), id(2, 0), none, "c")}},
		"the third run is the first":           {Runs: []api.Run{run(id(1, 0), none, none, "a"), run(id(2, 0), none, none, "b"), run(id(1, 0), none, none, "a")}},
		"the zero span":                        deleting(0, 0, 0),
		"a span of Client 0":                   deleting(0, 0, 1),
		"a span of no clock":                   deleting(1, 2, 2),
		"a span that falls":                    deleting(1, 2, 1),
		"spans that touch":                     deleting(1, 0, 2, 1, 2, 3),
		"spans that overlap":                   deleting(1, 0, 3, 1, 2, 5),
		"a span again":                         deleting(1, 0, 3, 1, 0, 3),
		"spans that fall by Client":            deleting(2, 0, 1, 1, 0, 1),
		"spans that fall by From":              deleting(1, 5, 6, 1, 0, 1),
		"a run, and Deletes that are no set":   {Runs: []api.Run{run(id(1, 0), none, none, "a")}, Deletes: spans(1, 2, 2)},
		"Deletes, and a run that may not be":   {Runs: []api.Run{run(id(1, 0), none, none, "")}, Deletes: spans(1, 0, 1)},
	}
}

// P6.1, R1 and R3: ErrArg itself of a batch that may not be, ErrMalformed itself of what would be its bytes, and nothing else.
func TestBatchesThatMayNotBe(t *testing.T) {
	for name, x := range refused() {
		if May(x) {
			t.Errorf("%s: May is true", name)
		}
		if b, err := Put(x); len(b) != 0 || err != api.ErrArg {
			t.Errorf("%s: Put = %v, %v, want ErrArg", name, b, err)
		}
		checkRefused(t, name, putByWords(x))
		if check(t, x) {
			t.Errorf("%s: by the words it may be", name)
		}
	}
}

// worldRuns has runs of a small world of Clocks, those that may not be among them, with some Lefts and Rights.
func worldRuns(base uint32, lefts []api.Id) []api.Run {
	var l []api.Run
	for client := range uint32(3) {
		for clock := range uint32(4) {
			for _, left := range lefts {
				for _, right := range []api.Id{{}, id(0, 1), id(1, base)} {
					for _, text := range []string{"", "a", "éb", "\xff"} {
						l = append(l, run(id(client, base+clock), left, right, text))
					}
				}
			}
		}
	}
	return l
}

// P1, P6.1 and P6.3: all pairs of runs of small worlds: the least Clocks, those around 31 bits, the greatest.
func TestAllPairsOfRuns(t *testing.T) {
	for _, base := range []uint32{0, math.MaxInt32 - 1, last - 3} {
		lefts := []api.Id{{}, id(0, base)}
		for client := uint32(1); client < 3; client++ {
			for clock := range uint32(4) {
				lefts = append(lefts, id(client, base+clock))
			}
		}
		behind, may := worldRuns(base, lefts), 0
		for _, ahead := range worldRuns(base, lefts[:1]) {
			for _, r := range behind {
				if check(t, api.Batch{Runs: []api.Run{ahead, r}}) {
					may++
				}
				if t.Failed() {
					return
				}
			}
		}
		if may < 2000 {
			t.Errorf("only %d pairs may be", may)
		}
	}
}

// P1, P6.1 and P6.3: all lists of up to three Deletes of small worlds.
func TestAllShortDeletes(t *testing.T) {
	for _, base := range []uint32{0, math.MaxInt32 - 1, last - 3} {
		lists := []api.Batch{{}}
		for from := 0; len(lists[from].Deletes) < 3; from++ {
			for n := range uint32(48) {
				s := api.Span{Client: n / 16, From: base + n/4%4, To: base + n%4}
				lists = append(lists, api.Batch{Deletes: append(slices.Clone(lists[from].Deletes), s)})
			}
		}
		may := 0
		for _, x := range lists {
			if check(t, x) {
				may++
			}
			if t.Failed() {
				return
			}
		}
		if may < 20 {
			t.Errorf("only %d lists may be", may)
		}
	}
}

// mixedBatch has up to some runs and spans, of which most rise and few go on.
func mixedBatch(m *mixer) api.Batch {
	var x api.Batch
	chars := []rune{0, 'a', '\n', 0x7f, 0x80, 'é', 0x7ff, 0x800, '€', 0xd7ff, 0xe000, 0xfffd, 0xffff, 0x10000, '😀', 0x10ffff}
	r := run(id(1, uint32(m.below(300))), id(9, 9), id(8, uint32(m.below(70000))), "")
	for range m.below(8) {
		r.Text = ""
		for range 1 + m.below(5) {
			r.Text += string(chars[m.below(len(chars))])
		}
		x.Runs = append(x.Runs, r)
		r.Id.Clock += uint32(len([]rune(r.Text)))
		r.Left = id(r.Id.Client, r.Id.Clock-1)
		switch m.below(20) {
		case 0:
			r.Id.Clock--
		case 1:
		case 2, 3, 4:
			r.Left.Clock--
		case 5, 6, 7:
			r.Right.Clock++
		case 8, 9, 10:
			r.Id = id(r.Id.Client+1, uint32(m.below(3)))
		default:
			r.Id.Clock += uint32(1 + m.below(300))
		}
	}
	from := uint32(0)
	for range m.below(8) {
		to := from + uint32(1+m.below(300))
		x.Deletes = append(x.Deletes, api.Span{Client: 1, From: from, To: to})
		from = to + uint32(m.below(20))
	}
	return x
}

// P6.1 and P6.3: longer batches.
func TestMixedBatches(t *testing.T) {
	m, may := mixer(6), 0
	const all = 20000
	for range all {
		if check(t, mixedBatch(&m)) {
			may++
		}
		if t.Failed() {
			return
		}
	}
	if may < all/4 || may > all*3/4 {
		t.Errorf("%d of %d batches may be", may, all)
	}
}

// filled has runs, spans, and then so many letters in the first run that there are just so many bytes.
func filled(size, runs, spans int, text string) api.Batch {
	x := alone(run(id(1, 0), api.Id{}, api.Id{}, text))
	for i := range runs {
		x.Runs = append(x.Runs, run(id(2, 2*uint32(i)), api.Id{}, api.Id{}, "€"))
	}
	for i := range spans {
		x.Deletes = append(x.Deletes, api.Span{Client: 1, From: 2 * uint32(i), To: 2*uint32(i) + 1})
	}
	for want := size - len(putByWords(x)); want > 0; want = size - len(putByWords(x)) {
		// The size of the text may become a byte longer.
		x.Runs[0].Text += strings.Repeat("a", max(1, want-1))
	}
	return x
}

// P6.1 and P6.3: bytes of just MaxBatch, of one less and of one more, by a Text, by Runs, by Deletes.
func TestMaxBatch(t *testing.T) {
	for _, c := range []struct {
		name        string
		runs, spans int
		text        string
	}{
		{"a long Text", 0, 0, "a"},
		{"a long Text of more bytes than characters", 0, 0, strings.Repeat("é€😀", 1000)},
		{"many Runs", 1300, 0, "a"},
		{"many Deletes", 0, 2000, "a"},
		{"many of both", 700, 1000, "a"},
	} {
		for _, size := range []int{19999, 20000, 20001} {
			x := filled(size, c.runs, c.spans, c.text)
			b := putByWords(x)
			if len(b) != size || !May(x) || !mayByWords(x) {
				t.Fatalf("%s: %d bytes, want %d, May: %v", c.name, len(b), size, May(x))
			}
			told, err := Put(x)
			if size > api.MaxBatch {
				if len(told) != 0 || err != api.ErrArg {
					t.Errorf("%s: Put of %d bytes = %d, %v, want ErrArg", c.name, size, len(told), err)
				}
				checkRefused(t, c.name, b)
				continue
			}
			if !bytes.Equal(told, b) || err != nil {
				t.Errorf("%s: Put of %d bytes = %d, %v", c.name, size, len(told), err)
			}
			if got, err := Get(b); !same(got, x) || err != nil {
				t.Errorf("%s: Get of %d bytes: %v", c.name, size, err)
			}
		}
	}
}

// P1, P6.1: far more bytes than MaxBatch, of batches that may be, and of nothing.
func TestFarMoreThanMaxBatch(t *testing.T) {
	for _, x := range []api.Batch{filled(1<<21, 0, 0, "a"), filled(1<<20, 9000, 9000, "a")} {
		if !May(x) {
			t.Error("May is false")
		}
		if b, err := Put(x); len(b) != 0 || err != api.ErrArg {
			t.Errorf("Put = %d bytes, %v, want ErrArg", len(b), err)
		}
		checkRefused(t, "far more", putByWords(x))
	}
	for _, x := range []byte{0, 1, 4, 255} {
		checkRefused(t, "one byte, again and again", bytes.Repeat([]byte{x}, 1<<20))
		checkRefused(t, "one byte, up to MaxBatch", bytes.Repeat([]byte{x}, api.MaxBatch))
	}
}

// P6.1: bytes cut off at each place, with what was cut in the room behind them, and none at all.
func TestBytesCutOff(t *testing.T) {
	for _, c := range samples() {
		for k := range c.b {
			checkRefused(t, c.name, c.b[:k])
			checkRefused(t, c.name, c.b[:k:k])
		}
	}
	checkRefused(t, "no bytes", nil)
	checkRefused(t, "no bytes", []byte{})
}

// P6.1: bytes with one more behind them, whatever it is, or ahead of them, and a batch behind a batch.
func TestBytesWithMore(t *testing.T) {
	for _, c := range samples() {
		for x := range 256 {
			checkRefused(t, c.name, append(slices.Clone(c.b), byte(x)))
			checkGet(t, append([]byte{byte(x)}, c.b...))
		}
		for _, other := range samples() {
			checkRefused(t, c.name+", "+other.name, slices.Concat(c.b, other.b))
		}
	}
}

// P6.1: each number of a batch with a 0 ahead, with two, and with as many as fill four bytes and five.
func TestNumbersWithAZeroAhead(t *testing.T) {
	for _, c := range samples() {
		l := pieces(c.x)
		for i, p := range l {
			if p.isText {
				continue
			}
			digits := p.bytesOf()[1:]
			for size := len(digits) + 1; size <= 5; size++ {
				padded := append(append([]byte{byte(size)}, make([]byte, size-len(digits))...), digits...)
				checkRefused(t, c.name, slices.Concat(write(l[:i]), padded, write(l[i+1:])))
			}
		}
	}
}

// P6.1: a Text that isn't UTF-8, in the first run, in the last one, and in both.
func TestTextsThatAreNotUTF8(t *testing.T) {
	for _, text := range []string{
		"\xff", "\x80", "a\x80", "\x80a", "é\xa9", "\xc3", "\xc3a", "\xe2\x82", "\xf0\x9f\x98", "\xc0\x80", "\xe0\x80\x80", "\xf0\x80\x80\x80",
		"\xed\xa0\x80", "\xed\xbf\xbf", "\xf4\x90\x80\x80", "\xf8\x88\x80\x80\x80", strings.Repeat("x", 300) + "\xff", "\xff" + strings.Repeat("x", 300),
	} {
		bad := []api.Run{run(id(1, 0), api.Id{}, api.Id{}, text), run(id(2, 0), api.Id{}, api.Id{}, text)}
		good := []api.Run{run(id(1, 0), api.Id{}, api.Id{}, "é"), run(id(2, 0), api.Id{}, api.Id{}, "\ufffd")}
		if !check(t, api.Batch{Runs: good}) {
			t.Error("runs of UTF-8 may not be")
		}
		for _, l := range [][]api.Run{{bad[0], good[1]}, {good[0], bad[1]}, bad} {
			if check(t, api.Batch{Runs: l}) {
				t.Errorf("a run of %q may be", text)
			}
		}
	}
}

// P1 and P6.1: counts of Runs and of Deletes, and a Text's size, that are greater than what there is, up to the greatest number.
func TestCountsGreaterThanWhatThereIs(t *testing.T) {
	for _, c := range samples() {
		l := pieces(c.x)
		// The counts stand at the beginning and behind the last run; of the sizes a text's bytes stand behind.
		counts := []int{0, 1 + 8*len(c.x.Runs)}
		for i, p := range l {
			if p.isText {
				counts = append(counts, i-1)
			}
		}
		for _, i := range counts {
			for _, more := range []uint32{1, 2, 255, 256, 65536, math.MaxInt32, math.MaxInt32 + 1, last - l[i].v - 1, last - l[i].v} {
				other := slices.Clone(l)
				other[i].v += more
				checkGet(t, write(other))
				if i == counts[1] {
					checkRefused(t, c.name, write(other))
				}
			}
		}
	}
	for _, n := range []uint32{1, 2, 255, 65536, math.MaxInt32, math.MaxInt32 + 1, last} {
		count := piece{v: n}.bytesOf()
		checkRefused(t, "Runs alone", count)
		checkRefused(t, "Runs, and nothing", append(slices.Clone(count), 0))
		checkRefused(t, "Deletes alone", append([]byte{0}, count...))
		checkRefused(t, "a Text's size", slices.Concat([]byte{1, 1, 1, 1, 0, 0, 0, 0, 0}, piece{v: n + 1}.bytesOf(), []byte{'a'}, []byte{0}[:n%2]))
	}
}

// P6.1: counts that are less than what there is leave bytes behind, or make others of them.
func TestCountsLessThanWhatThereIs(t *testing.T) {
	for _, c := range samples() {
		for i, p := range pieces(c.x) {
			for v := range min(p.v, 300) {
				other := pieces(c.x)
				other[i].v = v
				checkGet(t, write(other))
			}
		}
	}
}

// P1, P6.1 and P6.3: batches of which one byte is another one, is left out, or stands twice, and two that are small.
func TestBytesThatAreSpoilt(t *testing.T) {
	some, got := []byte{0, 1, 2, 3, 4, 5, 'a', 0x80, 0xc3, 255}, 0
	for _, c := range samples() {
		for i := range c.b {
			checkGet(t, slices.Concat(c.b[:i], c.b[i+1:]))
			checkGet(t, slices.Concat(c.b[:i+1], c.b[i:]))
			for x := range 256 {
				b := slices.Clone(c.b)
				b[i] = byte(x)
				if checkGet(t, b) {
					got++
				}
			}
			for j := range i {
				b := slices.Clone(c.b)
				for n := range len(some) * len(some) {
					b[i], b[j] = some[n/len(some)], some[n%len(some)]
					checkGet(t, b)
				}
			}
		}
		if t.Failed() {
			return
		}
	}
	if got < 1000 {
		t.Errorf("only %d were got", got)
	}
}

// P1, P6.1 and P6.3: all short lists of some bytes, alone, behind a run, and as a run's end.
func TestGetOfAllShortBytes(t *testing.T) {
	some, got := []byte{0, 1, 2, 3, 4, 5, 'a', 255}, 0
	l := [][]byte{nil}
	for from := 0; len(l[from]) < 6; from++ {
		for _, x := range some {
			l = append(l, append(slices.Clone(l[from]), x))
		}
	}
	for _, ahead := range [][]byte{nil, {1, 1, 1, 1, 0, 0, 0, 0, 0, 1, 1, 'a'}, {1, 1, 1, 1, 0, 0, 0, 0, 0}, {0, 1, 1}, {1, 1, 1, 1, 0, 0, 0, 0, 0, 1, 1, 'a', 1, 1}} {
		for _, b := range l {
			if checkGet(t, append(slices.Clone(ahead), b...)) {
				got++
			}
		}
		if t.Failed() {
			return
		}
	}
	if got < 100 {
		t.Errorf("only %d were got", got)
	}
}

// spoil overwrites elements and the room behind them.
func spoil[T any](l []T, x T) {
	for i := range l[:cap(l)] {
		l[:cap(l)][i] = x
	}
}

// roomy has a list's elements, with room behind them that isn't nothing.
func roomy[T any](l []T, x T) []T {
	whole := append(slices.Clone(l), x, x, x)
	return whole[:len(l)]
}

// roomsSame holds against each other what stands in the lists, and in the room behind.
func roomsSame[T comparable](a, b []T) bool {
	return slices.Equal(a[:len(a)+3], b[:len(b)+3])
}

// P6.2 and R2: May and Put change nothing of a batch nor behind it and keep nothing; the bytes are new memory.
func TestMemoryOfPut(t *testing.T) {
	r, s := run(id(7, 7), id(7, 6), id(7, 5), "spoilt"), api.Span{Client: 7, From: 5, To: 7}
	for _, c := range samples() {
		handed := api.Batch{Runs: roomy(c.x.Runs, r), Deletes: roomy(c.x.Deletes, s)}
		before := api.Batch{Runs: roomy(c.x.Runs, r), Deletes: roomy(c.x.Deletes, s)}
		told, err := Put(handed)
		again, err2 := Put(handed)
		if !May(handed) || err != nil || err2 != nil {
			t.Fatalf("%s: May = %v, Put: %v, %v", c.name, May(handed), err, err2)
		}
		spoil(told, 99)
		third, err := Put(handed)
		if !bytes.Equal(again, c.b) || !bytes.Equal(third, c.b) || err != nil {
			t.Errorf("%s: Put tells memory that is not new: %v, %v", c.name, again, third)
		}
		if !roomsSame(handed.Runs, before.Runs) || !roomsSame(handed.Deletes, before.Deletes) {
			t.Errorf("%s: what is handed in is changed: %v", c.name, handed)
		}
		spoil(handed.Runs, r)
		spoil(handed.Deletes, s)
		fourth, err := Put(c.x)
		if !bytes.Equal(again, c.b) || !bytes.Equal(fourth, c.b) || err != nil {
			t.Errorf("%s: Put keeps what is handed in: %v, %v", c.name, again, fourth)
		}
	}
}

// P6.2 and R2: Get changes nothing of bytes nor behind them and keeps none, in a Text either; the batch is new memory.
func TestMemoryOfGet(t *testing.T) {
	r, s := run(id(7, 7), id(7, 6), id(7, 5), "spoilt"), api.Span{Client: 7, From: 5, To: 7}
	for _, c := range samples() {
		handed, before := roomy(c.b, 99), roomy(c.b, 99)
		told, err := Get(handed)
		again, err2 := Get(handed)
		if err != nil || err2 != nil {
			t.Fatalf("%s: Get: %v, %v", c.name, err, err2)
		}
		spoil(told.Runs, r)
		spoil(told.Deletes, s)
		third, err := Get(handed)
		if !same(again, c.x) || !same(third, c.x) || err != nil {
			t.Errorf("%s: Get tells memory that is not new: %v, %v", c.name, again, third)
		}
		if !roomsSame(handed, before) {
			t.Errorf("%s: what is handed in is changed: %v", c.name, handed)
		}
		spoil(handed, 99)
		fourth, err := Get(c.b)
		if !same(again, c.x) || !same(fourth, c.x) || err != nil {
			t.Errorf("%s: Get keeps what is handed in: %v, %v", c.name, again, fourth)
		}
	}
}

// P6.2 and R2: nor is anything changed of what is refused.
func TestMemoryOfWhatIsRefused(t *testing.T) {
	r, s := run(id(7, 7), id(7, 6), id(7, 5), "spoilt"), api.Span{Client: 7, From: 5, To: 7}
	for name, x := range refused() {
		handed := api.Batch{Runs: roomy(x.Runs, r), Deletes: roomy(x.Deletes, s)}
		before := api.Batch{Runs: roomy(x.Runs, r), Deletes: roomy(x.Deletes, s)}
		Put(handed)
		if May(handed) || !roomsSame(handed.Runs, before.Runs) || !roomsSame(handed.Deletes, before.Deletes) {
			t.Errorf("%s: what is handed in is changed: %v", name, handed)
		}
		b := roomy(putByWords(x), 99)
		Get(b)
		if !roomsSame(b, roomy(putByWords(x), 99)) {
			t.Errorf("%s: what is handed in is changed: %v", name, b)
		}
	}
}
