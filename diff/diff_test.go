package diff

import (
	"errors"
	"math"
	"slices"
	"strings"
	"testing"
	"unicode/utf8"
	"unsafe"

	"surcingle/api"
)

// changeByWords tries each beginning and then each end, the longest ones first.
func changeByWords(from, to string) (api.Edit, bool) {
	a, b := []rune(from), []rune(to)
	if slices.Equal(a, b) {
		return api.Edit{}, false
	}
	at := min(len(a), len(b))
	for !slices.Equal(a[:at], b[:at]) {
		at--
	}
	a, b = a[at:], b[at:]
	tail := min(len(a), len(b))
	for !slices.Equal(a[len(a)-tail:], b[len(b)-tail:]) {
		tail--
	}
	return api.Edit{At: at, Del: len(a) - tail, Ins: string(b[:len(b)-tail])}, true
}

// doneByWords leaves out the characters one by one; false, where there is an error.
func doneByWords(text string, e api.Edit) (string, bool) {
	if e.At < 0 || e.Del < 0 {
		return "", false
	}
	characters := []rune(text)
	// In 64 bits without a sign even the greatest two ints have a sum.
	behind := uint64(e.At) + uint64(e.Del)
	if behind > uint64(len(characters)) {
		return "", false
	}
	var told []rune
	for place, ch := range append(characters, -1) {
		if place == e.At {
			told = append(told, []rune(e.Ins)...)
		}
		if ch >= 0 && (place < e.At || uint64(place) >= behind) {
			told = append(told, ch)
		}
	}
	return string(told), true
}

// checkOf asks for a change, and does it; asked again, the same is told.
func checkOf(t *testing.T, from, to string, want api.Edit, differ bool) {
	t.Helper()
	for range 2 {
		e, ok := Of(from, to)
		if e != want || ok != differ {
			t.Fatalf("Of(%q, %q) = %+v, %v, want %+v, %v", from, to, e, ok, want, differ)
		}
		if s, err := Do(from, e); s != to || err != nil {
			t.Fatalf("Do(%q, %+v) = %q, %v, want %q", from, e, s, err, to)
		}
	}
}

// checkDo asks for what is done; asked again, the same is told.
func checkDo(t *testing.T, text string, e api.Edit) {
	t.Helper()
	want, may := doneByWords(text, e)
	for range 2 {
		s, err := Do(text, e)
		if may && (s != want || err != nil) {
			t.Fatalf("Do(%q, %+v) = %q, %v, want %q", text, e, s, err, want)
		}
		if !may {
			checkRefused(t, text, e, s, err)
		}
	}
}

// checkRefused holds for ErrRange, itself, and nothing beside it.
func checkRefused(t *testing.T, text string, e api.Edit, s string, err error) {
	t.Helper()
	var fault *api.Fault
	if s != "" || err != api.ErrRange || errors.As(err, &fault) {
		t.Fatalf("Do(%q, %+v) = %q, %v, want %v itself", text, e, s, err, api.ErrRange)
	}
}

// checkGreatest holds a change against its words, none of them told a second way: what is alike is no longer.
func checkGreatest(t *testing.T, from, to string, e api.Edit) {
	t.Helper()
	a, b := []rune(from), []rune(to)
	ins := utf8.RuneCountInString(e.Ins)
	if e.At < 0 || e.Del < 0 || e.At+e.Del > len(a) || len(a)-e.Del != len(b)-ins {
		t.Fatalf("%q, %q: %+v is no change of so many characters", from, to, e)
	}
	if !slices.Equal(a[:e.At], b[:e.At]) || !slices.Equal(a[e.At+e.Del:], b[e.At+ins:]) {
		t.Fatalf("%q, %q: %+v leaves what isn't alike", from, to, e)
	}
	if string(b[e.At:e.At+ins]) != e.Ins {
		t.Fatalf("%q, %q: the Ins of %+v is not what is between", from, to, e)
	}
	if e.At < min(len(a), len(b)) && a[e.At] == b[e.At] {
		t.Fatalf("%q, %q: the At of %+v could be greater", from, to, e)
	}
	if e.Del > 0 && ins > 0 && a[e.At+e.Del-1] == b[e.At+ins-1] {
		t.Fatalf("%q, %q: the end behind %+v could be longer", from, to, e)
	}
}

// textsOf are all texts of these characters, so many at most.
func textsOf(characters []rune, most int) []string {
	told, from := []string{""}, 0
	for range most {
		behind := len(told)
		for _, text := range told[from:behind] {
			for _, ch := range characters {
				told = append(told, text+string(ch))
			}
		}
		from = behind
	}
	return told
}

// alphabets are characters that share first bytes, or last ones, or all but one, of each count of bytes.
func alphabets() [][]rune {
	return [][]rune{
		{'a', 'b'},
		{'a', 0xe9, 0xe8, 0xa9},
		{0xe9, 0x20ac, 0x20ad, 0x10ac},
		{0x20ac, 0x1f600, 0x1f601, 0x1f640},
		{0, 0x7f, 0x80, 0x7ff},
		{0x800, 0xfffd, 0xffff, 0x10000},
		{0x10ffff, 0x10fffe, 0xd7ff, 0xe000},
		{'a', 0x301, 0x200d, 0xfeff},
	}
}

// far are numbers that are no place of n characters, nor a count of them.
func far(n int) []int {
	return []int{-1, -2, -n, -n - 1, math.MinInt32, math.MinInt, math.MinInt + 1, n + 1, n + 2, math.MaxInt32, math.MaxInt - n, math.MaxInt - 1, math.MaxInt}
}

// mixer tells numbers that are mixed, the same ones each time.
type mixer uint32

func (m *mixer) below(n int) int {
	*m = *m*1664525 + 1013904223
	return int(uint32(*m)>>8) % n
}

func (m *mixer) text(characters []rune, most int) string {
	var told strings.Builder
	for range m.below(most + 1) {
		told.WriteRune(characters[m.below(len(characters))])
	}
	return told.String()
}

// P12.1, P12.2: the document's example, and each edge of how two texts may share what they have.
func TestOfTellsTheChange(t *testing.T) {
	for _, c := range []struct {
		from, to string
		want     api.Edit
	}{
		{"abc", "axc", api.Edit{At: 1, Del: 1, Ins: "x"}},
		// An empty one.
		{"", "a", api.Edit{Ins: "a"}},
		{"", "éa", api.Edit{Ins: "éa"}},
		{"a", "", api.Edit{Del: 1}},
		{"éa€", "", api.Edit{Del: 3}},
		// A beginning that is shared.
		{"ab", "ac", api.Edit{At: 1, Del: 1, Ins: "c"}},
		{"éab", "éac", api.Edit{At: 2, Del: 1, Ins: "c"}},
		{"ab", "abc", api.Edit{At: 2, Ins: "c"}},
		{"abc", "ab", api.Edit{At: 2, Del: 1}},
		{"€é", "€", api.Edit{At: 1, Del: 1}},
		// An end.
		{"xab", "yab", api.Edit{Del: 1, Ins: "y"}},
		{"ab", "cab", api.Edit{Ins: "c"}},
		{"cab", "ab", api.Edit{Del: 1}},
		{"aé", "é", api.Edit{Del: 1}},
		{"xyé😀", "é😀", api.Edit{Del: 2}},
		// Both.
		{"abcde", "abde", api.Edit{At: 2, Del: 1}},
		{"abde", "abcde", api.Edit{At: 2, Ins: "c"}},
		{"éab", "éxyb", api.Edit{At: 1, Del: 1, Ins: "xy"}},
		{"éxy€", "éa€", api.Edit{At: 1, Del: 2, Ins: "a"}},
		// Neither, though what is between has characters that are alike.
		{"ab", "cd", api.Edit{Del: 2, Ins: "cd"}},
		{"ab", "ba", api.Edit{Del: 2, Ins: "ba"}},
		{"abc", "cba", api.Edit{Del: 3, Ins: "cba"}},
		{"xaby", "zabw", api.Edit{Del: 4, Ins: "zabw"}},
		{"a", "é", api.Edit{Del: 1, Ins: "é"}},
		{"xaxbx", "xbxax", api.Edit{At: 1, Del: 3, Ins: "bxa"}},
	} {
		checkOf(t, c.from, c.to, c.want, true)
		checkGreatest(t, c.from, c.to, c.want)
	}
}

// P12.1: beginning and end would lie over one another; the beginning has all that it can, the end what is left.
func TestOfTakesTheBeginningAheadOfTheEnd(t *testing.T) {
	for _, c := range []struct {
		from, to string
		want     api.Edit
	}{
		{"a", "aa", api.Edit{At: 1, Ins: "a"}},
		{"aa", "a", api.Edit{At: 1, Del: 1}},
		{"aaa", "aaaa", api.Edit{At: 3, Ins: "a"}},
		{"aaaa", "aa", api.Edit{At: 2, Del: 2}},
		{"éé", "éééé", api.Edit{At: 2, Ins: "éé"}},
		{"😀😀😀", "😀", api.Edit{At: 1, Del: 2}},
		{"aba", "ababa", api.Edit{At: 3, Ins: "ba"}},
		{"ababa", "aba", api.Edit{At: 3, Del: 2}},
		{"ab", "abab", api.Edit{At: 2, Ins: "ab"}},
		{"aab", "aaab", api.Edit{At: 2, Ins: "a"}},
		{"aaab", "aab", api.Edit{At: 2, Del: 1}},
		{"baa", "baaa", api.Edit{At: 3, Ins: "a"}},
		{"abcab", "abcabcab", api.Edit{At: 5, Ins: "cab"}},
		{"éaé", "éaéaé", api.Edit{At: 3, Ins: "aé"}},
		{"xaax", "xax", api.Edit{At: 2, Del: 1}},
		{"xax", "xaax", api.Edit{At: 2, Ins: "a"}},
		{"aXa", "aa", api.Edit{At: 1, Del: 1}},
		{"aa", "aXa", api.Edit{At: 1, Ins: "X"}},
	} {
		checkOf(t, c.from, c.to, c.want, true)
		checkGreatest(t, c.from, c.to, c.want)
	}
}

// P12.1: alike characters, so many and so many.
func TestOfAlikeCharacters(t *testing.T) {
	for _, ch := range []string{"a", "é", "€", "😀"} {
		for from := range 12 {
			for to := range 12 {
				want := api.Edit{}
				if from != to {
					same := min(from, to)
					want = api.Edit{At: same, Del: from - same, Ins: strings.Repeat(ch, to-same)}
				}
				checkOf(t, strings.Repeat(ch, from), strings.Repeat(ch, to), want, from != to)
			}
		}
	}
}

// P12.1, P12.2: unlike characters that share bytes are unlike as a whole.
func TestOfHoldsWholeCharacters(t *testing.T) {
	for _, c := range []struct {
		from, to string
		want     api.Edit
	}{
		// The first bytes: of two, of three, of four.
		{"é", "è", api.Edit{Del: 1, Ins: "è"}},
		{"aé", "aè", api.Edit{At: 1, Del: 1, Ins: "è"}},
		{"\u20ac", "\u20ad", api.Edit{Del: 1, Ins: "\u20ad"}},
		{"\u20ac", "\u2190", api.Edit{Del: 1, Ins: "\u2190"}},
		{"é\u20acx", "é\u20adx", api.Edit{At: 1, Del: 1, Ins: "\u20ad"}},
		{"\U0001f600", "\U0001f601", api.Edit{Del: 1, Ins: "\U0001f601"}},
		{"\U0001f600", "\U0001f640", api.Edit{Del: 1, Ins: "\U0001f640"}},
		{"\U0001f600", "\U00010000", api.Edit{Del: 1, Ins: "\U00010000"}},
		{"\U0001f600\U0001f600", "\U0001f600\U0001f601", api.Edit{At: 1, Del: 1, Ins: "\U0001f601"}},
		// The last ones, of as many bytes or of fewer.
		{"é", "©", api.Edit{Del: 1, Ins: "©"}},
		{"aéb", "a©b", api.Edit{At: 1, Del: 1, Ins: "©"}},
		{"\u20ac", "\u10ac", api.Edit{Del: 1, Ins: "\u10ac"}},
		{"\u20ac", "\u00ac", api.Edit{Del: 1, Ins: "\u00ac"}},
		{"\U0001f600", "\U0002f600", api.Edit{Del: 1, Ins: "\U0002f600"}},
		{"\U0001f600", "\uf600", api.Edit{Del: 1, Ins: "\uf600"}},
		{"\U0001f600", "\u0600", api.Edit{Del: 1, Ins: "\u0600"}},
		// The first and the last of them.
		{"\u20ac", "\u212c", api.Edit{Del: 1, Ins: "\u212c"}},
		{"\U0001f600", "\U0001e600", api.Edit{Del: 1, Ins: "\U0001e600"}},
		{"x\U0001f600y", "x\U0001f640y", api.Edit{At: 1, Del: 1, Ins: "\U0001f640"}},
		// Between characters, and with more of them in the one.
		{"éa", "èéa", api.Edit{Ins: "è"}},
		{"aé", "aéè", api.Edit{At: 2, Ins: "è"}},
		{"éè", "è", api.Edit{Del: 1}},
		{"éè", "éé", api.Edit{At: 1, Del: 1, Ins: "é"}},
		// Marks that join what is ahead of them are characters of their own.
		{"e\u0301", "e", api.Edit{At: 1, Del: 1}},
		{"e\u0301", "é", api.Edit{Del: 2, Ins: "é"}},
		// What stands for a character that isn't one is a character, too.
		{"\ufffd", "\ufffe", api.Edit{Del: 1, Ins: "\ufffe"}},
		{"a\ufffdb", "ab", api.Edit{At: 1, Del: 1}},
		{"a\x00b", "a\x00\x00b", api.Edit{At: 2, Ins: "\x00"}},
		{"a\nb", "a\r\nb", api.Edit{At: 1, Ins: "\r"}},
	} {
		checkOf(t, c.from, c.to, c.want, true)
		checkOfBack(t, c.from, c.to)
		checkGreatest(t, c.from, c.to, c.want)
	}
}

// checkOfBack asks for the change the other way.
func checkOfBack(t *testing.T, from, to string) {
	t.Helper()
	want, differ := changeByWords(to, from)
	checkOf(t, to, from, want, differ)
}

// P12.1, R3: of the same texts nothing, false; of the same memory or not.
func TestOfTheSameTextsTellsNothing(t *testing.T) {
	for _, text := range []string{"", "a", "abc", "é", "aé", "€", "😀", "e\u0301", "\ufffd", "\x00", strings.Repeat("é😀", 1000)} {
		checkOf(t, text, text, api.Edit{}, false)
		checkOf(t, text, strings.Clone(text), api.Edit{}, false)
	}
}

// P12.1, P12.2: all short texts of each alphabet, each of them to each.
func TestOfAllShortTexts(t *testing.T) {
	for _, characters := range alphabets() {
		most := 3
		if len(characters) == 2 {
			most = 6
		}
		texts := textsOf(characters, most)
		for _, from := range texts {
			for _, to := range texts {
				want, differ := changeByWords(from, to)
				checkOf(t, from, to, want, differ)
				if differ {
					checkGreatest(t, from, to, want)
				}
			}
		}
	}
}

// P12.1, P12.2: mixed texts that share a beginning, an end, and something of what is between.
func TestOfMixedTexts(t *testing.T) {
	m := mixer(1)
	for _, characters := range alphabets() {
		for range 2000 {
			head, tail := m.text(characters, 20), m.text(characters, 20)
			from := head + m.text(characters, 6) + tail
			to := head + m.text(characters, 6) + tail
			want, differ := changeByWords(from, to)
			checkOf(t, from, to, want, differ)
			if differ {
				checkGreatest(t, from, to, want)
			}
		}
	}
}

// P12.1: the edges of places: at 0, at the text's end, up to its end, and one beyond it.
func TestDoTellsTheText(t *testing.T) {
	for _, c := range []struct {
		text string
		e    api.Edit
		want string
	}{
		{"abc", api.Edit{At: 1, Del: 1, Ins: "x"}, "axc"},
		{"", api.Edit{}, ""},
		{"", api.Edit{Ins: "é"}, "é"},
		{"éab", api.Edit{}, "éab"},
		{"éab", api.Edit{Ins: "x€"}, "x€éab"},
		{"éab", api.Edit{Del: 1}, "ab"},
		{"éab", api.Edit{Del: 1, Ins: "😀"}, "😀ab"},
		{"éab", api.Edit{At: 1}, "éab"},
		{"éab", api.Edit{At: 1, Ins: "x"}, "éxab"},
		{"éab", api.Edit{At: 3}, "éab"},
		{"éab", api.Edit{At: 3, Ins: "x"}, "éabx"},
		{"éab", api.Edit{At: 2, Del: 1}, "éa"},
		{"éab", api.Edit{At: 1, Del: 2, Ins: "€"}, "é€"},
		{"éab", api.Edit{Del: 3}, ""},
		{"éab", api.Edit{Del: 3, Ins: "éab"}, "éab"},
		{"a😀é€", api.Edit{At: 1, Del: 2}, "a€"},
		{"a😀é€", api.Edit{At: 2, Del: 1, Ins: "é"}, "a😀é€"},
		{"e\u0301e", api.Edit{At: 1, Del: 1}, "ee"},
	} {
		if s, err := Do(c.text, c.e); s != c.want || err != nil {
			t.Errorf("Do(%q, %+v) = %q, %v, want %q", c.text, c.e, s, err, c.want)
		}
	}
}

// P12.1, R1, R3: ErrRange, itself, and no text, where At or Del is wrong, or both.
func TestDoRefusesWhatIsNoPlace(t *testing.T) {
	for _, c := range []struct {
		text string
		e    api.Edit
	}{
		{"éa", api.Edit{At: -1}},
		{"éa", api.Edit{Del: -1}},
		{"éa", api.Edit{At: -1, Del: 1}},
		{"éa", api.Edit{At: 1, Del: -1}},
		{"éa", api.Edit{At: 2, Del: -1}},
		{"éa", api.Edit{At: 3, Del: -1}},
		{"éa", api.Edit{At: -1, Del: 3}},
		{"éa", api.Edit{At: -1, Del: -1}},
		{"éa", api.Edit{At: 3}},
		{"éa", api.Edit{At: 2, Del: 1}},
		{"éa", api.Edit{At: 1, Del: 2}},
		{"éa", api.Edit{Del: 3}},
		{"", api.Edit{At: 1}},
		{"", api.Edit{Del: 1}},
		{"😀", api.Edit{At: 2}},
		{"😀", api.Edit{Del: 4}},
		{"é", api.Edit{At: 1, Del: 1}},
		{"éa", api.Edit{At: math.MaxInt, Del: math.MaxInt}},
		{"éa", api.Edit{At: math.MaxInt, Del: 1}},
		{"éa", api.Edit{At: 1, Del: math.MaxInt}},
		{"éa", api.Edit{At: 2, Del: math.MaxInt}},
		{"éa", api.Edit{Del: math.MaxInt}},
		{"éa", api.Edit{At: math.MaxInt}},
		{"éa", api.Edit{At: math.MaxInt/2 + 1, Del: math.MaxInt/2 + 1}},
		{"éa", api.Edit{At: math.MaxInt/2 + 2, Del: math.MaxInt/2 + 1}},
		{"éa", api.Edit{At: math.MinInt, Del: math.MinInt}},
		{"éa", api.Edit{At: math.MinInt, Del: math.MaxInt}},
		{"éa", api.Edit{At: math.MaxInt, Del: math.MinInt}},
		{"éa", api.Edit{At: 2, Del: math.MinInt}},
	} {
		for _, ins := range []string{"", "x", "é", "éa"} {
			e := api.Edit{At: c.e.At, Del: c.e.Del, Ins: ins}
			s, err := Do(c.text, e)
			checkRefused(t, c.text, e, s, err)
		}
	}
}

// P12.1: each At and each Del, those that are and those beyond, of some texts.
func TestDoAtAllPlaces(t *testing.T) {
	for _, text := range []string{"", "a", "é", "€", "😀", "éa", "aé€😀", "éèéè", "aaaa", "e\u0301\ufffd\x00", "abcdefghijklmnopq"} {
		n := utf8.RuneCountInString(text)
		numbers := far(n)
		for k := range n + 1 {
			numbers = append(numbers, k)
		}
		for _, at := range numbers {
			for _, del := range numbers {
				for _, ins := range []string{"", "x", "é€😀", text} {
					checkDo(t, text, api.Edit{At: at, Del: del, Ins: ins})
				}
			}
		}
	}
}

// P12.1: mixed changes, of which some are of no place.
func TestDoMixedChanges(t *testing.T) {
	m := mixer(2)
	for _, characters := range alphabets() {
		for range 2000 {
			text := m.text(characters, 12)
			checkDo(t, text, api.Edit{At: m.below(14) - 1, Del: m.below(8) - 1, Ins: m.text(characters, 3)})
		}
	}
}

// P12.2: changes one behind the other lead through all texts.
func TestChangesLeadFromTextToText(t *testing.T) {
	m := mixer(3)
	for _, characters := range alphabets() {
		held, text := "", ""
		for range 500 {
			next := m.text(characters, 10)
			if e, ok := Of(text, next); ok {
				s, err := Do(held, e)
				if err != nil {
					t.Fatalf("Do(%q, %+v): %v", held, e, err)
				}
				held = s
			}
			text = next
			if held != text {
				t.Fatalf("the text is %q, want %q", held, text)
			}
		}
	}
}

// P1: long texts, alike but for a little or in nothing, end soon.
func TestLongTexts(t *testing.T) {
	const n = 1 << 20
	for _, ch := range []string{"a", "é", "€", "😀"} {
		long := strings.Repeat(ch, n)
		checkLong(t, long, "", api.Edit{Del: n})
		checkLong(t, "", long, api.Edit{Ins: long})
		checkLong(t, long, long+ch, api.Edit{At: n, Ins: ch})
		checkLong(t, long+ch, long, api.Edit{At: n, Del: 1})
		checkLong(t, long, long+"x"+long, api.Edit{At: n, Ins: "x" + long})
		checkLong(t, long+"x"+long, long+"yz"+long, api.Edit{At: n, Del: 1, Ins: "yz"})
		checkLong(t, "x"+long, "y"+long, api.Edit{Del: 1, Ins: "y"})
		checkLong(t, long+"x", "x"+long, api.Edit{Del: n + 1, Ins: "x" + long})
		if e, ok := Of(long, strings.Clone(long)); e != (api.Edit{}) || ok {
			t.Errorf("of the same long texts %d, %d, %v", e.At, e.Del, ok)
		}
		if s, err := Do(long, api.Edit{At: n, Del: 1}); s != "" || err != api.ErrRange {
			t.Errorf("beyond a long text's end: %d bytes, %v", len(s), err)
		}
	}
}

// checkLong doesn't write the texts out, as they are long.
func checkLong(t *testing.T, from, to string, want api.Edit) {
	t.Helper()
	e, ok := Of(from, to)
	if e != want || !ok {
		t.Errorf("of %d bytes and %d: At %d, Del %d, %d bytes, %v", len(from), len(to), e.At, e.Del, len(e.Ins), ok)
	}
	if s, err := Do(from, e); s != to || err != nil {
		t.Errorf("of %d bytes and %d: %d bytes, %v", len(from), len(to), len(s), err)
	}
}

// reached holds all memory that was handed in, so that none of it is where the language copies it by itself.
var reached [][]byte

// handed is a text whose memory can be written over later on.
func handed(text string) (string, []byte) {
	memory := []byte(text)
	reached = append(reached, memory)
	return unsafe.String(unsafe.SliceData(memory), len(memory)), memory
}

// spoil writes over memory that was handed in.
func spoil(memory ...[]byte) {
	for _, b := range memory {
		for k := range b {
			b[k] = '#'
		}
	}
}

// R2: what Of tells stays as it is when what was handed in is no more; nor was that changed.
func TestOfTellsNewMemory(t *testing.T) {
	for _, c := range []struct{ from, to string }{
		{"", "éab"}, {"éab", "éxyb"}, {"ab", "ba"}, {"ab", "abcdef"}, {"ab", "cdefab"}, {"éab", ""},
	} {
		from, fromMemory := handed(c.from)
		to, toMemory := handed(c.to)
		want, _ := changeByWords(c.from, c.to)
		e, ok := Of(from, to)
		if string(fromMemory) != c.from || string(toMemory) != c.to {
			t.Fatalf("Of(%q, %q) changed what was handed in", c.from, c.to)
		}
		spoil(fromMemory, toMemory)
		if e != want || !ok {
			t.Errorf("of %q and %q, which are no more: %+v, want %+v", c.from, c.to, e, want)
		}
	}
}

// R2: so does what Do tells, also where it is one of the texts handed in.
func TestDoTellsNewMemory(t *testing.T) {
	for _, c := range []struct {
		text string
		e    api.Edit
	}{
		{"éab", api.Edit{At: 1, Del: 1, Ins: "xy"}},
		{"éab", api.Edit{}},
		{"éab", api.Edit{At: 3}},
		{"éab", api.Edit{Del: 1}},
		{"éab", api.Edit{At: 2, Del: 1}},
		{"éab", api.Edit{Del: 3, Ins: "xyz"}},
		{"", api.Edit{Ins: "xyz"}},
		{"éab", api.Edit{Del: 3}},
		{"éab", api.Edit{At: 3, Del: 1, Ins: "xyz"}},
	} {
		text, textMemory := handed(c.text)
		ins, insMemory := handed(c.e.Ins)
		want, _ := doneByWords(c.text, c.e)
		s, _ := Do(text, api.Edit{At: c.e.At, Del: c.e.Del, Ins: ins})
		if string(textMemory) != c.text || string(insMemory) != c.e.Ins {
			t.Fatalf("Do(%q, %+v) changed what was handed in", c.text, c.e)
		}
		spoil(textMemory, insMemory)
		if s != want {
			t.Errorf("of %q and %+v, which are no more: %q, want %q", c.text, c.e, s, want)
		}
	}
}

// R2: nothing is kept from call to call: an error, or another text, ahead of a call is not seen in it.
func TestNothingIsKept(t *testing.T) {
	m := mixer(4)
	for range 2000 {
		characters := alphabets()[m.below(len(alphabets()))]
		from, to := m.text(characters, 6), m.text(characters, 6)
		checkDo(t, to, api.Edit{At: m.below(9) - 1, Del: m.below(4) - 1, Ins: from})
		want, differ := changeByWords(from, to)
		checkOf(t, from, to, want, differ)
	}
}

// R4 says nothing of texts that aren't UTF-8; the calls end all the same, so that whoever leans on them goes on.
func TestTextsThatAreNotUTF8End(t *testing.T) {
	parts := []string{"", "a", "é", "\xc3", "\xa9", "\xe2\x82", "\xff", "\xed\xa0\x80", "\xf0\x9f\x98"}
	for _, a := range parts {
		for _, b := range parts {
			for _, c := range parts {
				e, _ := Of(a+b, b+c)
				Do(a+b, e)
				Do(b+c, e)
				Do(a+b, api.Edit{At: 1, Del: 1, Ins: c})
			}
		}
	}
}
