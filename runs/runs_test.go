package runs

import (
	"math"
	"slices"
	"strings"
	"testing"
	"unicode/utf8"

	"surcingle/api"
)

const last = math.MaxUint32

func id(client, clock uint32) api.Id { return api.Id{Client: client, Clock: clock} }

func run(a, left, right api.Id, text string) api.Run {
	return api.Run{Id: a, Left: left, Right: right, Text: text}
}

func item(a, left, right api.Id, ch rune) api.Item {
	return api.Item{Id: a, Left: left, Right: right, Ch: ch}
}

// mayByWords counts runes: bytes that are no character become one of three bytes.
func mayByWords(r api.Run) bool {
	chars := []rune(r.Text)
	return r.Id.Client != 0 && len(chars) > 0 && string(chars) == r.Text && uint64(r.Id.Clock)+uint64(len(chars)) <= last
}

// itemsByWords makes each item out of its place in the run, not out of the one ahead of it.
func itemsByWords(l []api.Run) []api.Item {
	var told []api.Item
	for _, r := range l {
		for i, ch := range []rune(r.Text) {
			x := item(id(r.Id.Client, r.Id.Clock+uint32(i)), r.Left, r.Right, ch)
			if i > 0 {
				x.Left = id(r.Id.Client, r.Id.Clock+uint32(i)-1)
			}
			told = append(told, x)
		}
	}
	return told
}

// oneByWords tells the run whose items these are, if there is one that may be.
func oneByWords(l []api.Item) (api.Run, bool) {
	var chars []rune
	for _, x := range l {
		chars = append(chars, x.Ch)
	}
	r := run(l[0].Id, l[0].Left, l[0].Right, string(chars))
	return r, mayByWords(r) && slices.Equal(itemsByWords([]api.Run{r}), l)
}

// fewestByWords tries all ways to cut items into runs.
func fewestByWords(l []api.Item) int {
	fewest := make([]int, len(l)+1)
	for end := 1; end <= len(l); end++ {
		fewest[end] = math.MaxInt
		for from := range end {
			if _, ok := oneByWords(l[from:end]); ok {
				fewest[end] = min(fewest[end], fewest[from]+1)
			}
		}
	}
	return fewest[len(l)]
}

// checkOf asks of items that Ids rise in what the promises say of their runs.
func checkOf(t *testing.T, l []api.Item) {
	t.Helper()
	told := Of(l)
	if want := fewestByWords(l); len(told) != want {
		t.Errorf("Of(%v) = %v, want %d runs", l, told, want)
	}
	for _, r := range told {
		if !mayByWords(r) {
			t.Errorf("Of(%v) = %v: %v may not be", l, told, r)
		}
	}
	if !slices.Equal(itemsByWords(told), l) || !slices.Equal(Items(told), l) {
		t.Errorf("Of(%v) = %v, of other items", l, told)
	}
}

// mixer tells numbers that look mixed, the same ones each time.
type mixer uint32

func (m *mixer) below(n int) int {
	*m = *m*1664525 + 1013904223
	return int(*m>>8) % n
}

// chars are the edges of each length of character, and some between.
func chars() []rune {
	return []rune{0, 'a', 'b', '\n', 0x7f, 0x80, 'é', 0x301, 0x7ff, 0x800, '€', 0xd7ff, 0xe000, 0xfeff, 0xfffd, 0xffff, 0x10000, '😀', 0x10ffff}
}

// P5.1: Client 0, no character, what isn't UTF-8, clocks at the last one and beyond it, any Left and Right.
func TestMayTellsWhetherARunMayBe(t *testing.T) {
	none := api.Id{}
	for _, c := range []struct {
		name string
		r    api.Run
		want bool
	}{
		{"one character", run(id(1, 0), none, none, "a"), true},
		{"the document's example", run(id(1, 0), none, none, "ab"), true},
		{"the zero run", api.Run{}, false},
		{"Client 0", run(none, none, none, "a"), false},
		{"Client 0, with a Clock", run(id(0, 5), id(1, 4), id(1, 3), "a"), false},
		{"the greatest Client", run(id(last, 0), none, none, "a"), true},
		{"no character", run(id(1, 0), none, none, ""), false},
		{"no character, in the middle", run(id(1, 7), id(1, 6), id(1, 3), ""), false},
		{"no character, at the last Clock", run(id(1, last-1), none, none, ""), false},
		{"no character, beyond the last Clock", run(id(1, last), none, none, ""), false},
		{"the last Clock", run(id(1, last-1), none, none, "a"), true},
		{"beyond the last Clock", run(id(1, last), none, none, "a"), false},
		{"beyond the last Clock, to 0 again", run(id(1, last), none, none, "ab"), false},
		{"up to the last Clock", run(id(1, last-2), none, none, "ab"), true},
		{"one beyond it", run(id(1, last-1), none, none, "ab"), false},
		{"two beyond it", run(id(1, last-1), none, none, "abc"), false},
		{"up to the last Clock, by more bytes", run(id(1, last-3), none, none, "é€😀"), true},
		{"one beyond it, by more bytes", run(id(1, last-2), none, none, "é€😀"), false},
		{"clocks beyond 31 bits", run(id(1, math.MaxInt32), none, none, "abc"), true},
		{"Left and Right of nothing, with Clocks", run(id(1, 1), id(0, 5), id(0, last), "a"), true},
		{"Left and Right that are it", run(id(1, 1), id(1, 1), id(1, 1), "ab"), true},
		{"Left and Right that come later", run(id(1, 1), id(1, 9), id(1, last), "ab"), true},
		{"Left and Right beyond the last Clock", run(id(1, 1), id(last, last), id(last, last), "ab"), true},
	} {
		if got := May(c.r); got != c.want {
			t.Errorf("%s: May(%v) = %v, want %v", c.name, c.r, got, c.want)
		}
	}
}

// P5.1: each character that there is may be in a Text, alone; surrogates, written as if they were characters, may not.
func TestMayTakesEachCharacter(t *testing.T) {
	for r := range rune(utf8.MaxRune + 1) {
		if r >= 0xd800 && r < 0xe000 {
			surrogate := []byte{byte(0xe0 | r>>12), byte(0x80 | r>>6&0x3f), byte(0x80 | r&0x3f)}
			if May(run(id(1, 0), api.Id{}, api.Id{}, string(surrogate))) {
				t.Fatalf("May takes the surrogate %x", r)
			}
			continue
		}
		if !May(run(id(1, last-1), api.Id{}, api.Id{}, string(r))) {
			t.Fatalf("May refuses the character %x", r)
		}
		if May(run(id(1, last), api.Id{}, api.Id{}, string(r))) {
			t.Fatalf("May takes the character %x beyond the last Clock", r)
		}
	}
}

// P5.1: bytes alone that no character has, characters that are cut, too long ones, surrogates, and ones beyond the last.
func TestMayRefusesWhatIsNotUTF8(t *testing.T) {
	for _, s := range []string{
		"\xff", "\xfe", "\x80", "\xbf", "\xc3", "\xc3a", "\xe2\x82", "\xe2\x82a", "\xf0\x9f\x98", "\xf0\x9f\x98a",
		"\xc0\x80", "\xc1\xbf", "\xe0\x80\x80", "\xe0\x9f\xbf", "\xf0\x80\x80\x80", "\xf0\x8f\xbf\xbf",
		"\xed\xa0\x80", "\xed\xbf\xbf", "\xed\xa0\xbd\xed\xb8\x80", "\xf4\x90\x80\x80", "\xf5\x80\x80\x80", "\xf8\x88\x80\x80\x80",
	} {
		for _, text := range []string{s, "a" + s, s + "a", "é" + s + "\ufffd", strings.Repeat("x", 300) + s, s + strings.Repeat("x", 300)} {
			if May(run(id(1, 0), api.Id{}, api.Id{}, text)) {
				t.Errorf("May takes the text %q", text)
			}
		}
	}
}

// P1 and P5.1: all texts of up to four of some bytes, at Clients and Clocks that are edges.
func TestMayAtAllShortTexts(t *testing.T) {
	texts := []string{""}
	for from := 0; len(texts[from]) < 4; from++ {
		for _, x := range []byte{0, 'a', 0x80, 0xa9, 0xc3, 0xe2, 0xf0, 0xff} {
			texts = append(texts, texts[from]+string([]byte{x}))
		}
	}
	for _, client := range []uint32{0, 1, math.MaxInt32 + 1, last} {
		for _, clock := range []uint32{0, 1, math.MaxInt32, math.MaxInt32 + 1, last - 5, last - 4, last - 3, last - 2, last - 1, last} {
			for _, text := range texts {
				r := run(id(client, clock), id(client, clock-1), id(2, 3), text)
				if got, want := May(r), mayByWords(r); got != want {
					t.Fatalf("May(%v) = %v, want %v", r, got, want)
				}
			}
		}
	}
}

// P5.1: a run's Text is counted by characters, not by bytes, however long it is.
func TestMayCountsCharacters(t *testing.T) {
	for _, ch := range chars() {
		for _, n := range []int{1, 2, 255, 256, 70000} {
			text := strings.Repeat(string(ch), n)
			fits := run(id(1, last-uint32(n)), api.Id{}, api.Id{}, text)
			if !May(fits) {
				t.Errorf("May refuses %d of the character %x up to the last Clock", n, ch)
			}
			fits.Id.Clock++
			if May(fits) {
				t.Errorf("May takes %d of the character %x to beyond the last Clock", n, ch)
			}
		}
	}
}

// pairs has runs and their items, of which each is the other's answer.
func pairs() []struct {
	name  string
	runs  []api.Run
	items []api.Item
} {
	none, left, right := api.Id{}, id(9, 9), id(8, 8)
	return []struct {
		name  string
		runs  []api.Run
		items []api.Item
	}{
		{"none", nil, nil},
		{"the document's example", []api.Run{run(id(1, 0), none, none, "ab")},
			[]api.Item{item(id(1, 0), none, none, 'a'), item(id(1, 1), id(1, 0), none, 'b')}},
		{"one item", []api.Run{run(id(1, 3), left, right, "a")}, []api.Item{item(id(1, 3), left, right, 'a')}},
		{"each length of character", []api.Run{run(id(1, 3), left, right, "aé€😀")}, []api.Item{
			item(id(1, 3), left, right, 'a'), item(id(1, 4), id(1, 3), right, 'é'), item(id(1, 5), id(1, 4), right, '€'), item(id(1, 6), id(1, 5), right, '😀')}},
		{"characters 0 and fffd", []api.Run{run(id(1, 3), none, right, "\x00\ufffd")},
			[]api.Item{item(id(1, 3), none, right, 0), item(id(1, 4), id(1, 3), right, 0xfffd)}},
		{"up to the last Clock", []api.Run{run(id(last, last-2), left, right, "ab")},
			[]api.Item{item(id(last, last-2), left, right, 'a'), item(id(last, last-1), id(last, last-2), right, 'b')}},
		{"clocks beyond 31 bits", []api.Run{run(id(1, math.MaxInt32), left, none, "ab")},
			[]api.Item{item(id(1, math.MaxInt32), left, none, 'a'), item(id(1, math.MaxInt32+1), id(1, math.MaxInt32), none, 'b')}},
		{"a Clock is left out", []api.Run{run(id(1, 0), left, right, "a"), run(id(1, 2), id(1, 0), right, "b")},
			[]api.Item{item(id(1, 0), left, right, 'a'), item(id(1, 2), id(1, 0), right, 'b')}},
		{"a Clock is left out, and is the Left", []api.Run{run(id(1, 0), left, right, "a"), run(id(1, 2), id(1, 1), right, "b")},
			[]api.Item{item(id(1, 0), left, right, 'a'), item(id(1, 2), id(1, 1), right, 'b')}},
		{"another Client", []api.Run{run(id(1, 0), left, right, "a"), run(id(2, 1), id(1, 0), right, "b")},
			[]api.Item{item(id(1, 0), left, right, 'a'), item(id(2, 1), id(1, 0), right, 'b')}},
		{"another Client, and in Left, too", []api.Run{run(id(1, 0), left, right, "a"), run(id(2, 1), id(2, 0), right, "b")},
			[]api.Item{item(id(1, 0), left, right, 'a'), item(id(2, 1), id(2, 0), right, 'b')}},
		{"another Client, Clock 0, behind the last Clock", []api.Run{run(id(1, last-1), left, right, "a"), run(id(2, 0), id(1, last-1), right, "b")},
			[]api.Item{item(id(1, last-1), left, right, 'a'), item(id(2, 0), id(1, last-1), right, 'b')}},
		{"another Left", []api.Run{run(id(1, 5), left, right, "a"), run(id(1, 6), id(1, 4), right, "b")},
			[]api.Item{item(id(1, 5), left, right, 'a'), item(id(1, 6), id(1, 4), right, 'b')}},
		{"the same Left", []api.Run{run(id(1, 5), left, right, "a"), run(id(1, 6), left, right, "b")},
			[]api.Item{item(id(1, 5), left, right, 'a'), item(id(1, 6), left, right, 'b')}},
		{"a Left of another Client", []api.Run{run(id(1, 5), left, right, "a"), run(id(1, 6), id(2, 5), right, "b")},
			[]api.Item{item(id(1, 5), left, right, 'a'), item(id(1, 6), id(2, 5), right, 'b')}},
		{"nothing as Left", []api.Run{run(id(1, 0), none, right, "a"), run(id(1, 1), none, right, "b")},
			[]api.Item{item(id(1, 0), none, right, 'a'), item(id(1, 1), none, right, 'b')}},
		{"a Left that is it", []api.Run{run(id(1, 5), left, right, "a"), run(id(1, 6), id(1, 6), right, "b")},
			[]api.Item{item(id(1, 5), left, right, 'a'), item(id(1, 6), id(1, 6), right, 'b')}},
		{"another Right, by its Clock", []api.Run{run(id(1, 5), left, right, "a"), run(id(1, 6), id(1, 5), id(8, 7), "b")},
			[]api.Item{item(id(1, 5), left, right, 'a'), item(id(1, 6), id(1, 5), id(8, 7), 'b')}},
		{"another Right, by its Client", []api.Run{run(id(1, 5), left, right, "a"), run(id(1, 6), id(1, 5), id(7, 8), "b")},
			[]api.Item{item(id(1, 5), left, right, 'a'), item(id(1, 6), id(1, 5), id(7, 8), 'b')}},
		{"nothing as Right", []api.Run{run(id(1, 5), left, right, "a"), run(id(1, 6), id(1, 5), none, "b")},
			[]api.Item{item(id(1, 5), left, right, 'a'), item(id(1, 6), id(1, 5), none, 'b')}},
		{"Rights of nothing, of other Clocks", []api.Run{run(id(1, 5), left, none, "a"), run(id(1, 6), id(1, 5), id(0, 1), "b")},
			[]api.Item{item(id(1, 5), left, none, 'a'), item(id(1, 6), id(1, 5), id(0, 1), 'b')}},
		{"goes on but in the middle", []api.Run{run(id(1, 5), left, right, "ab"), run(id(1, 7), id(1, 6), left, "cd")}, []api.Item{
			item(id(1, 5), left, right, 'a'), item(id(1, 6), id(1, 5), right, 'b'), item(id(1, 7), id(1, 6), left, 'c'), item(id(1, 8), id(1, 7), left, 'd')}},
	}
}

// P5.1 and R3: both calls, at items that go on but for one thing, at Clocks up to the last one, and at none at all.
func TestItemsAndOf(t *testing.T) {
	for _, c := range pairs() {
		if got := Items(c.runs); !slices.Equal(got, c.items) {
			t.Errorf("%s: Items(%v) = %v, want %v", c.name, c.runs, got, c.items)
		}
		if got := Of(c.items); !slices.Equal(got, c.runs) {
			t.Errorf("%s: Of(%v) = %v, want %v", c.name, c.items, got, c.runs)
		}
		checkOf(t, c.items)
	}
	if got := Items([]api.Run{}); len(got) != 0 {
		t.Errorf("Items of no runs = %v", got)
	}
	if got := Of([]api.Item{}); len(got) != 0 {
		t.Errorf("Of of no items = %v", got)
	}
}

// P5.1: Items takes runs in any order, even ones again and ones that go on, as it is told them.
func TestItemsInOrder(t *testing.T) {
	none := api.Id{}
	l := []api.Run{run(id(2, 5), none, none, "xy"), run(id(1, 1), id(1, 0), none, "b"), run(id(1, 0), none, none, "a"), run(id(2, 5), none, none, "xy"), run(id(2, 7), id(2, 6), none, "z")}
	want := []api.Item{
		item(id(2, 5), none, none, 'x'), item(id(2, 6), id(2, 5), none, 'y'),
		item(id(1, 1), id(1, 0), none, 'b'), item(id(1, 0), none, none, 'a'),
		item(id(2, 5), none, none, 'x'), item(id(2, 6), id(2, 5), none, 'y'), item(id(2, 7), id(2, 6), none, 'z'),
	}
	if got := Items(l); !slices.Equal(got, want) {
		t.Errorf("Items = %v, want %v", got, want)
	}
}

// The chapter's words of an item that goes on; of Client 0 and beyond the last Clock none does.
func TestGoesOn(t *testing.T) {
	ahead := item(id(1, 5), id(9, 9), id(8, 8), 'a')
	next := item(id(1, 6), id(1, 5), id(8, 8), 'b')
	if !goesOn(ahead, next) {
		t.Error("the next one doesn't go on")
	}
	for i, change := range []func(x *api.Item){
		func(x *api.Item) { x.Id.Clock = 7 },
		func(x *api.Item) { x.Id.Clock = 5 },
		func(x *api.Item) { x.Id.Clock = 4 },
		func(x *api.Item) { x.Id.Client = 2 },
		func(x *api.Item) { x.Id.Client = 0 },
		func(x *api.Item) { x.Left.Clock = 4 },
		func(x *api.Item) { x.Left.Clock = 6 },
		func(x *api.Item) { x.Left.Client = 2 },
		func(x *api.Item) { x.Left = api.Id{} },
		func(x *api.Item) { x.Left = ahead.Left },
		func(x *api.Item) { x.Right.Clock = 9 },
		func(x *api.Item) { x.Right.Client = 9 },
		func(x *api.Item) { x.Right = api.Id{} },
	} {
		other := next
		change(&other)
		if goesOn(ahead, other) {
			t.Errorf("change %d: %v goes on from %v", i, other, ahead)
		}
	}
	for clock, want := range map[uint32]bool{0: true, math.MaxInt32: true, last - 3: true, last - 2: true, last - 1: false, last: false} {
		ahead, next := item(id(1, clock), id(9, 9), id(8, 8), 'a'), item(id(1, clock+1), id(1, clock), id(8, 8), 'b')
		if goesOn(ahead, next) != want {
			t.Errorf("%v goes on from %v: not %v", next, ahead, want)
		}
	}
	for _, a := range []api.Id{id(1, last-1), id(1, last), id(0, 3)} {
		if goesOn(item(a, id(9, 9), id(8, 8), 'a'), item(api.Id{}, a, id(8, 8), 'b')) {
			t.Errorf("an item of no Id goes on from %v", a)
		}
	}
}

// worldItems has, of each Id of a small world, all items with a Left and a Right of some.
func worldItems(base uint32) [][]api.Item {
	var all []api.Id
	for client := uint32(1); client < 3; client++ {
		for clock := range uint32(3) {
			all = append(all, id(client, base+clock))
		}
	}
	var l [][]api.Item
	for _, a := range all {
		var same []api.Item
		for _, left := range append([]api.Id{{}}, all...) {
			for _, right := range []api.Id{{}, id(1, base)} {
				same = append(same, item(a, left, right, rune('a'+len(l))))
			}
		}
		l = append(l, same)
	}
	return l
}

// P5.1 and P5.3: all lists of up to three items of small worlds: the least Clocks, those around 31 bits, the greatest.
func TestOfAtAllShortLists(t *testing.T) {
	for _, base := range []uint32{0, math.MaxInt32 - 1, last - 3} {
		lists := [][]api.Item{nil}
		for _, same := range worldItems(base) {
			for _, l := range lists {
				if len(l) == 3 {
					continue
				}
				for _, x := range same {
					lists = append(lists, append(slices.Clone(l), x))
				}
			}
		}
		for _, l := range lists {
			checkOf(t, l)
			if t.Failed() {
				return
			}
		}
	}
}

// mixedItems has items whose Ids rise, of which many go on.
func mixedItems(m *mixer, n int) []api.Item {
	var l []api.Item
	x := item(id(1, uint32(m.below(9))), id(9, 9), id(8, 8), 'a')
	for range n {
		x.Ch = chars()[m.below(len(chars()))]
		l = append(l, x)
		x.Left = x.Id
		x.Id.Clock++
		switch m.below(12) {
		case 0:
			x.Id.Clock += uint32(1 + m.below(3))
		case 1:
			x.Id = id(x.Id.Client+1, uint32(m.below(9)))
		case 2:
			x.Left = id(x.Left.Client, uint32(m.below(9)))
		case 3:
			x.Right = id(uint32(m.below(3)), uint32(m.below(3)))
		}
	}
	return l
}

// P5.1 and P5.3: longer lists.
func TestOfAtMixedItems(t *testing.T) {
	m, alone, more := mixer(5), 0, 0
	for range 2000 {
		l := mixedItems(&m, m.below(30))
		checkOf(t, l)
		for _, r := range Of(l) {
			if utf8.RuneCountInString(r.Text) > 1 {
				more++
			} else {
				alone++
			}
		}
		if t.Failed() {
			return
		}
	}
	if alone < 1000 || more < 1000 {
		t.Errorf("only %d runs of one item, and %d of more", alone, more)
	}
}

// goesOnByWords asks whether two runs, one behind the other, have items that one run could have.
func goesOnByWords(ahead, r api.Run) bool {
	_, ok := oneByWords(itemsByWords([]api.Run{ahead, r}))
	return ok
}

// mixedRuns has runs whose items' Ids rise, of which many go on from the one ahead of them.
func mixedRuns(m *mixer, n int) []api.Run {
	var l []api.Run
	r := run(id(1, 0), id(9, 9), id(8, 8), "")
	for range n {
		r.Text = ""
		for range 1 + m.below(4) {
			r.Text += string(chars()[m.below(len(chars()))])
		}
		l = append(l, r)
		r.Id.Clock += uint32(utf8.RuneCountInString(r.Text))
		r.Left = id(r.Id.Client, r.Id.Clock-1)
		switch m.below(6) {
		case 0:
			r.Id.Clock++
		case 1:
			r.Left.Clock--
		case 2:
			r.Right = id(uint32(m.below(3)), uint32(m.below(3)))
		case 3:
			r.Id = id(r.Id.Client+1, 0)
		}
	}
	return l
}

// joinByWords joins runs that go on, two by two.
func joinByWords(l []api.Run) []api.Run {
	var told []api.Run
	for _, r := range l {
		if end := len(told) - 1; end >= 0 && goesOnByWords(told[end], r) {
			told[end].Text += r.Text
		} else {
			told = append(told, r)
		}
	}
	return told
}

// P5.1 and P5.3: items of runs, and the runs of these, of which none goes on from the one ahead of it.
func TestOfOfItemsOfRuns(t *testing.T) {
	m, joined := mixer(3), 0
	for range 2000 {
		l := mixedRuns(&m, m.below(12))
		items := Items(l)
		if want := itemsByWords(l); !slices.Equal(items, want) {
			t.Fatalf("Items(%v) = %v, want %v", l, items, want)
		}
		told := Of(items)
		if want := joinByWords(l); !slices.Equal(told, want) {
			t.Fatalf("Of(Items(%v)) = %v, want %v", l, told, want)
		}
		for i := 1; i < len(told); i++ {
			if goesOnByWords(told[i-1], told[i]) {
				t.Fatalf("Of(Items(%v)) = %v: run %d goes on", l, told, i)
			}
		}
		joined += len(l) - len(told)
	}
	if joined < 1000 {
		t.Errorf("only %d runs were joined", joined)
	}
}

// P5.1: a run of many items is one run again.
func TestALongRun(t *testing.T) {
	text := strings.Repeat("aé€😀", 50000)
	l := []api.Run{run(id(1, last-200000), id(9, 9), id(8, 8), text)}
	items := Items(l)
	if !slices.Equal(items, itemsByWords(l)) || items[len(items)-1].Id != id(1, last-1) {
		t.Errorf("Items tells %d items, or other ones", len(items))
	}
	if told := Of(items); !slices.Equal(told, l) {
		t.Errorf("Of tells %d runs, or another one", len(told))
	}
}

// spoil overwrites elements and the room behind them.
func spoil[T any](l []T, x T) {
	for i := range l[:cap(l)] {
		l[:cap(l)][i] = x
	}
}

// P5.2 and R2: a call changes neither what it is handed nor the room behind it, and tells memory that is nobody else's.
func checkMemory[A, B comparable](t *testing.T, name string, call func([]A) []B, l []A, want []B, a A, b B) {
	t.Helper()
	whole := append(slices.Clone(l), a, a, a)
	before := slices.Clone(whole)
	handed := whole[:len(l)]
	told, again := call(handed), call(handed)
	if !slices.Equal(whole, before) {
		t.Errorf("%s changes what is handed in: %v", name, whole)
	}
	spoil(told, b)
	if !slices.Equal(again, want) || !slices.Equal(call(handed), want) || !slices.Equal(whole, before) {
		t.Errorf("%s tells memory that is not new: %v", name, again)
	}
	told = call(handed)
	spoil(whole, a)
	if !slices.Equal(told, want) || !slices.Equal(call(slices.Clone(l)), want) {
		t.Errorf("%s keeps what is handed in: %v", name, told)
	}
}

func TestMemory(t *testing.T) {
	r, x := run(id(7, 7), id(7, 6), id(7, 5), "spoilt"), item(id(7, 7), id(7, 6), id(7, 5), 's')
	for _, c := range pairs() {
		checkMemory(t, "Items: "+c.name, Items, c.runs, c.items, r, x)
		checkMemory(t, "Of: "+c.name, Of, c.items, c.runs, x, r)
	}
}
