package wire

import (
	"bytes"
	"math"
	"slices"
	"strings"
	"testing"
	"unicode/utf8"

	"surcingle/api"
)

const last = math.MaxUint32

// numbers are those around each count of bits, and each small one.
func numbers() []uint32 {
	var l []uint32
	for v := range uint32(1 << 16) {
		l = append(l, v)
	}
	for bit := 15; bit < 32; bit++ {
		power := uint32(1) << bit
		l = append(l, power-2, power-1, power, power+1, power+255, power|power>>9)
	}
	seed := uint32(7)
	for range 1000 {
		seed = seed*1664525 + 1013904223
		l = append(l, seed)
	}
	return append(l, 0x01020304, 0x80000080, 0xff0000ff, last-256, last-255, last-1, last)
}

// putByWords writes a number by dividing it, from its lowest byte on.
func putByWords(v uint32) []byte {
	var digits []byte
	for rest := uint64(v); rest > 0; rest /= 256 {
		digits = append(digits, byte(rest%256))
	}
	slices.Reverse(digits)
	return append([]byte{byte(len(digits))}, digits...)
}

// getByWords looks for a number that has a beginning of b as its bytes.
func getByWords(b []byte) (uint32, int, bool) {
	v := uint64(0)
	for n := 1; n <= min(5, len(b)); n++ {
		if n > 1 {
			v = v*256 + uint64(b[n-1])
		}
		if bytes.Equal(putByWords(uint32(v)), b[:n]) {
			return uint32(v), n, true
		}
	}
	return 0, 0, false
}

// getTextByWords leans on the runes: bytes that are no character become one of three bytes.
func getTextByWords(b []byte) (string, int, bool) {
	size, head, ok := getByWords(b)
	if !ok || int64(head)+int64(size) > int64(len(b)) {
		return "", 0, false
	}
	s := string(b[head : head+int(size)])
	if string([]rune(s)) != s {
		return "", 0, false
	}
	return s, head + int(size), true
}

// behind has what stands in b from at on, nothing if there is no such place.
func behind(b []byte, at int) []byte {
	if at < 0 || at > len(b) {
		return nil
	}
	return b[at:]
}

// checkGet asks of one place what the document's words say.
func checkGet(t *testing.T, b []byte, at int) {
	t.Helper()
	want, count, ok := getByWords(behind(b, at))
	v, n, err := Get(b, at)
	if v != want || n != count || (err == nil) != ok || !ok && err != api.ErrMalformed {
		t.Errorf("Get(%v, %d) = %d, %d, %v, want %d, %d, %v", b, at, v, n, err, want, count, ok)
	}
}

// checkGetText asks of one place what the document's words say.
func checkGetText(t *testing.T, b []byte, at int) {
	t.Helper()
	want, count, ok := getTextByWords(behind(b, at))
	s, n, err := GetText(b, at)
	if s != want || n != count || (err == nil) != ok || !ok && err != api.ErrMalformed {
		t.Errorf("GetText(%v, %d) = %q, %d, %v, want %q, %d, %v", b, at, s, n, err, want, count, ok)
	}
}

// wrongPlaces are those at which nothing stands in b.
func wrongPlaces(b []byte) []int {
	return []int{-1, -2, -len(b), -len(b) - 1, math.MinInt32, math.MinInt, math.MinInt + 1, len(b), len(b) + 1, len(b) + 4, math.MaxInt32, math.MaxInt - 1, math.MaxInt}
}

// P4.1: the document's example, 0, the greatest number, and both sides of each count of bytes.
func TestPutTellsANumbersBytes(t *testing.T) {
	for _, c := range []struct {
		v    uint32
		want []byte
	}{
		{258, []byte{2, 1, 2}},
		{0, []byte{0}},
		{1, []byte{1, 1}},
		{127, []byte{1, 127}},
		{128, []byte{1, 128}},
		{255, []byte{1, 255}},
		{256, []byte{2, 1, 0}},
		{65535, []byte{2, 255, 255}},
		{65536, []byte{3, 1, 0, 0}},
		{1<<24 - 1, []byte{3, 255, 255, 255}},
		{1 << 24, []byte{4, 1, 0, 0, 0}},
		{0x01020304, []byte{4, 1, 2, 3, 4}},
		{math.MaxInt32, []byte{4, 127, 255, 255, 255}},
		{math.MaxInt32 + 1, []byte{4, 128, 0, 0, 0}},
		{last, []byte{4, 255, 255, 255, 255}},
	} {
		if got := Put(c.v); !bytes.Equal(got, c.want) {
			t.Errorf("Put(%d) = %v, want %v", c.v, got, c.want)
		}
		if v, n, err := Get(c.want, 0); v != c.v || n != len(c.want) || err != nil {
			t.Errorf("Get(%v, 0) = %d, %d, %v, want %d", c.want, v, n, err, c.v)
		}
	}
	for _, v := range numbers() {
		if got, want := Put(v), putByWords(v); !bytes.Equal(got, want) {
			t.Fatalf("Put(%d) = %v, want %v", v, got, want)
		}
	}
}

// P4.1: a number somewhere in bytes, of which each other place is another number or none.
func TestGetTellsWhatStandsThere(t *testing.T) {
	b := []byte{2, 1, 2, 0, 4, 255, 255, 255, 255, 1, 9, 3}
	for _, c := range []struct {
		at   int
		want uint32
		n    int
	}{
		{0, 258, 3},
		{1, 2, 2},
		{3, 0, 1},
		{4, last, 5},
		{9, 9, 2},
	} {
		if v, n, err := Get(b, c.at); v != c.want || n != c.n || err != nil {
			t.Errorf("Get(%v, %d) = %d, %d, %v, want %d, %d", b, c.at, v, n, err, c.want, c.n)
		}
	}
	for _, at := range []int{2, 5, 6, 7, 8, 10, 11} {
		if v, n, err := Get(b, at); v != 0 || n != 0 || err != api.ErrMalformed {
			t.Errorf("Get(%v, %d) = %d, %d, %v, want ErrMalformed", b, at, v, n, err)
		}
	}
}

// P4.1 and R3: a 0 ahead of a number, more bytes said than a number may have, more than there are; of GetText, too.
func TestBytesOfNoNumber(t *testing.T) {
	for _, b := range [][]byte{
		nil,
		{},
		{1},
		{4},
		{1, 0},
		{2, 0, 5},
		{2, 0, 0},
		{3, 0, 1, 1},
		{4, 0, 1, 1, 1},
		{4, 0, 0, 0, 0},
		{2, 1},
		{3, 1, 1},
		{4, 1, 1, 1},
		{5},
		{5, 1, 1, 1, 1, 1},
		{5, 0, 0, 0, 0, 1},
		{8, 0, 0, 0, 0, 0, 0, 0, 1},
		{127, 1, 1, 1, 1, 1},
		{128, 1, 1, 1, 1, 1},
		{255},
		bytes.Repeat([]byte{255}, 300),
	} {
		if v, n, err := Get(b, 0); v != 0 || n != 0 || err != api.ErrMalformed {
			t.Errorf("Get(%v, 0) = %d, %d, %v, want ErrMalformed", b, v, n, err)
		}
		if s, n, err := GetText(b, 0); s != "" || n != 0 || err != api.ErrMalformed {
			t.Errorf("GetText(%v, 0) = %q, %d, %v, want ErrMalformed", b, s, n, err)
		}
	}
}

// P1 and P4.1: a place below 0, at the end and beyond it.
func TestPlacesAtWhichNothingStands(t *testing.T) {
	for _, b := range [][]byte{nil, {}, {0}, {0, 0, 0}, {1, 1}, {1, 1, 'a'}, {1, 2, 'a', 'b', 0}, {4, 255, 255, 255, 255}} {
		for _, at := range wrongPlaces(b) {
			if at == 0 && len(b) > 0 {
				continue
			}
			if v, n, err := Get(b, at); v != 0 || n != 0 || err != api.ErrMalformed {
				t.Errorf("Get(%v, %d) = %d, %d, %v, want ErrMalformed", b, at, v, n, err)
			}
			if s, n, err := GetText(b, at); s != "" || n != 0 || err != api.ErrMalformed {
				t.Errorf("GetText(%v, %d) = %q, %d, %v, want ErrMalformed", b, at, s, n, err)
			}
		}
	}
}

// P4.1: what stands behind b's end, in its room, is not b's.
func TestBytesThatEndTooEarly(t *testing.T) {
	for _, v := range []uint32{0, 1, 256, 65536, last} {
		whole := Put(v)
		for k := range whole {
			if got, n, err := Get(whole[:k], 0); got != 0 || n != 0 || err != api.ErrMalformed {
				t.Errorf("Get(%v, 0) = %d, %d, %v, want ErrMalformed", whole[:k], got, n, err)
			}
		}
	}
	for _, text := range []string{"", "a", "aé€😀", strings.Repeat("b", 300)} {
		whole := PutText(text)
		for k := range whole {
			if s, n, err := GetText(whole[:k], 0); s != "" || n != 0 || err != api.ErrMalformed {
				t.Errorf("GetText(%v, 0) = %q, %d, %v, want ErrMalformed", whole[:k], s, n, err)
			}
		}
	}
}

// P1 and P4.1: all short lists of some bytes, at all places around them.
func TestGetAndGetTextOfAllShortBytes(t *testing.T) {
	some := []byte{0, 1, 2, 3, 4, 5, 'a', 0x80, 0xa9, 0xc3, 0xe2, 0xff}
	l := [][]byte{nil}
	for from := 0; len(l[from]) < 5; from++ {
		for _, x := range some {
			l = append(l, append(slices.Clone(l[from]), x))
		}
	}
	for _, b := range l {
		for at := -1; at <= len(b)+1; at++ {
			checkGet(t, b, at)
			checkGetText(t, b, at)
		}
		if t.Failed() {
			return
		}
	}
}

// texts are of each length of character, the edges of each, and of each count of bytes of their size.
func texts() []string {
	l := []string{
		"", "a", "ab", "\x00", "\x7f", "\u0080", "é", "\u07ff", "\u0800", "€", "\ud7ff", "\ue000", "\ufffd", "\ufeff", "\uffff",
		"\U00010000", "😀", "\U0010ffff", "aé€😀", "😀€éa", "e\u0301", "\r\n",
	}
	for _, n := range []int{127, 128, 255, 256, 257, 65535, 65536, 65537, 1<<24 - 1, 1 << 24} {
		l = append(l, strings.Repeat("x", n))
	}
	return append(l, strings.Repeat("é", 128), strings.Repeat("€", 21846), strings.Repeat("😀", 64))
}

// short has the beginning of a text, for a test to tell.
func short(s string) string { return s[:min(len(s), 40)] }

// P4.1: the count of bytes, not of characters, and the bytes.
func TestPutTextTellsATextsBytes(t *testing.T) {
	for _, c := range []struct {
		s    string
		want []byte
	}{
		{"", []byte{0}},
		{"a", []byte{1, 1, 'a'}},
		{"é", []byte{1, 2, 0xc3, 0xa9}},
		{"€", []byte{1, 3, 0xe2, 0x82, 0xac}},
		{"😀", []byte{1, 4, 0xf0, 0x9f, 0x98, 0x80}},
		{"\ufffd", []byte{1, 3, 0xef, 0xbf, 0xbd}},
		{"\x00", []byte{1, 1, 0}},
		{"aé", []byte{1, 3, 'a', 0xc3, 0xa9}},
	} {
		if got := PutText(c.s); !bytes.Equal(got, c.want) {
			t.Errorf("PutText(%q) = %v, want %v", c.s, got, c.want)
		}
		if s, n, err := GetText(c.want, 0); s != c.s || n != len(c.want) || err != nil {
			t.Errorf("GetText(%v, 0) = %q, %d, %v, want %q", c.want, s, n, err, c.s)
		}
	}
	for _, s := range texts() {
		if got := PutText(s); !bytes.Equal(got, append(putByWords(uint32(len(s))), s...)) {
			t.Errorf("PutText of %d bytes, %q, begins with %v", len(s), short(s), got[:min(len(got), 8)])
		}
	}
}

// noTexts aren't UTF-8.
func noTexts() []string {
	return []string{
		"\xff", "\xfe", "\x80", "\xbf", "a\x80", "\x80a", "é\xa9",
		"\xc3", "\xc3a", "\xe2\x82", "\xe2\x82a", "\xf0\x9f\x98", "\xf0\x9f\x98a", "ab\xc3",
		"\xc0\x80", "\xc1\xbf", "\xe0\x80\x80", "\xe0\x9f\xbf", "\xf0\x80\x80\x80", "\xf0\x8f\xbf\xbf",
		"\xed\xa0\x80", "\xed\xbf\xbf", "\xed\xa0\xbd\xed\xb8\x80",
		"\xf4\x90\x80\x80", "\xf5\x80\x80\x80", "\xf8\x88\x80\x80\x80",
		strings.Repeat("x", 300) + "\xff", "\xff" + strings.Repeat("x", 300),
	}
}

// P4.1: PutText lets what isn't UTF-8 stay as it is; GetText refuses it, wherever it stands.
func TestTextsThatAreNotUTF8(t *testing.T) {
	for _, s := range noTexts() {
		b := PutText(s)
		if !bytes.Equal(b, append(putByWords(uint32(len(s))), s...)) {
			t.Errorf("PutText(%q) = %v", s, b)
		}
		for _, around := range []string{"", "\x80", "a", "\xbf\xbf"} {
			all := slices.Concat([]byte(around), b, []byte(around))
			if got, n, err := GetText(all, len(around)); got != "" || n != 0 || err != api.ErrMalformed {
				t.Errorf("GetText(%v, %d) = %q, %d, %v, want ErrMalformed", all, len(around), got, n, err)
			}
		}
	}
}

// P4.1: a text ends where its size says, even within a character, whose rest isn't taken in.
func TestTextsCutWithinACharacter(t *testing.T) {
	for _, b := range [][]byte{{1, 1, 0xc3, 0xa9}, {1, 2, 0xe2, 0x82, 0xac}, {1, 3, 0xf0, 0x9f, 0x98, 0x80}, {1, 2, 'a', 0xc3, 0xa9}} {
		if s, n, err := GetText(b, 0); s != "" || n != 0 || err != api.ErrMalformed {
			t.Errorf("GetText(%v, 0) = %q, %d, %v, want ErrMalformed", b, s, n, err)
		}
	}
	if s, n, err := GetText([]byte{1, 1, 'a', 0xc3, 0xa9}, 0); s != "a" || n != 3 || err != nil {
		t.Errorf("GetText = %q, %d, %v, want a, 3", s, n, err)
	}
}

// P1 and P4.1: a text's size that there are too few bytes for, up to the greatest number.
func TestTextsOfMoreBytesThanThereAre(t *testing.T) {
	for _, size := range []uint32{2, 3, 255, 256, math.MaxInt32, math.MaxInt32 + 1, last - 1, last} {
		b := append(Put(size), 'a')
		if s, n, err := GetText(b, 0); s != "" || n != 0 || err != api.ErrMalformed {
			t.Errorf("GetText(%v, 0) = %q, %d, %v, want ErrMalformed", b, s, n, err)
		}
	}
}

// P4.1: of all texts of two bytes, those that are UTF-8; and each character that there is.
func TestGetTextTakesWhatIsUTF8(t *testing.T) {
	for x := range 1 << 16 {
		checkGetText(t, []byte{1, 2, byte(x >> 8), byte(x)}, 0)
	}
	for r := range rune(utf8.MaxRune + 1) {
		if r >= 0xd800 && r < 0xe000 {
			continue
		}
		want := string(r)
		b := append([]byte{1, byte(len(want))}, want...)
		if s, n, err := GetText(b, 0); s != want || n != len(b) || err != nil {
			t.Fatalf("GetText(%v, 0) = %q, %d, %v, want %q", b, s, n, err, want)
		}
	}
}

// surroundings are what may stand ahead of bytes and behind them.
func surroundings() [][]byte {
	return [][]byte{nil, {0}, {1}, {4, 255}, {0x80, 0xbf}, {255, 255, 255, 255, 255}}
}

// P4.3: what was put is got, whatever stands around it.
func TestWhatWasPutIsGot(t *testing.T) {
	for _, ahead := range surroundings() {
		for _, after := range surroundings() {
			for _, v := range numbers()[65000:] {
				b := Put(v)
				all := slices.Concat(ahead, b, after)
				if got, n, err := Get(all, len(ahead)); got != v || n != len(b) || err != nil {
					t.Fatalf("Get(%v, %d) = %d, %d, %v, want %d", all, len(ahead), got, n, err, v)
				}
			}
		}
	}
	for _, s := range texts() {
		b := PutText(s)
		for _, around := range surroundings() {
			all := slices.Concat(around, b, around)
			if got, n, err := GetText(all, len(around)); got != s || n != len(b) || err != nil {
				t.Errorf("GetText of %d bytes, %q, around it %v: %q, %d, %v", len(s), short(s), around, short(got), n, err)
			}
		}
	}
}

// P4.3: one behind the other, all are got by going on from each one's end.
func TestManyOneBehindTheOther(t *testing.T) {
	var b []byte
	for _, v := range numbers()[65000:] {
		b = slices.Concat(b, Put(v), PutText(string(rune(v%0xd800))))
	}
	at := 0
	for _, want := range numbers()[65000:] {
		v, n, err := Get(b, at)
		if v != want || err != nil {
			t.Fatalf("at %d: %d, %v, want %d", at, v, err, want)
		}
		at += n
		s, n, err := GetText(b, at)
		if s != string(rune(want%0xd800)) || err != nil {
			t.Fatalf("at %d: %q, %v", at, s, err)
		}
		at += n
	}
	if at != len(b) {
		t.Errorf("ends at %d of %d", at, len(b))
	}
}

// P4.3: what is got, put, is those bytes: whatever the bytes are, here mixed ones.
func TestWhatIsGotPutIsThoseBytes(t *testing.T) {
	some := []byte{0, 0, 1, 1, 1, 2, 3, 4, 5, 'a', 'b', 0x80, 0xa9, 0xc3, 0xff}
	seed, gotNumbers, gotTexts := uint32(1), 0, 0
	for range 200000 {
		var b []byte
		for range 8 {
			seed = seed*1664525 + 1013904223
			b = append(b, some[int(seed>>8)%len(some)])
		}
		at := int(seed>>28) % 4
		if v, n, err := Get(b, at); err == nil {
			gotNumbers++
			if again := Put(v); !bytes.Equal(again, b[at:at+n]) {
				t.Fatalf("Get(%v, %d) = %d, %d, put: %v", b, at, v, n, again)
			}
		}
		if s, n, err := GetText(b, at); err == nil {
			gotTexts++
			if again := PutText(s); !bytes.Equal(again, b[at:at+n]) {
				t.Fatalf("GetText(%v, %d) = %q, %d, put: %v", b, at, s, n, again)
			}
		}
	}
	if gotNumbers < 1000 || gotTexts < 1000 {
		t.Errorf("only %d numbers and %d texts were got", gotNumbers, gotTexts)
	}
}

// spoil overwrites bytes and the room behind them.
func spoil(b []byte) {
	for i := range b[:cap(b)] {
		b[:cap(b)][i] = 99
	}
}

// P4.2 and R2: bytes that were told are nobody else's.
func TestWhatIsPutIsNewMemory(t *testing.T) {
	for _, v := range []uint32{0, 1, 255, 256, 65536, last} {
		told, again := Put(v), Put(v)
		spoil(told)
		if !bytes.Equal(again, putByWords(v)) || !bytes.Equal(Put(v), putByWords(v)) {
			t.Errorf("Put(%d) tells memory that is not new", v)
		}
	}
	for _, s := range []string{"", "a", "é€", "\xff", strings.Repeat("x", 300)} {
		want := append(putByWords(uint32(len(s))), s...)
		handed := strings.Clone(s)
		told, again := PutText(handed), PutText(handed)
		spoil(told)
		if handed != s || !bytes.Equal(again, want) || !bytes.Equal(PutText(handed), want) {
			t.Errorf("PutText(%q) tells memory that is not new", short(s))
		}
	}
}

// P4.2 and R2: a text that was told stays as it is when the bytes change, and those are as they were, the room behind them too.
func TestWhatIsGotIsNewMemory(t *testing.T) {
	for _, s := range []string{"", "a", "é€", strings.Repeat("x", 300)} {
		whole := slices.Concat([]byte{7}, PutText(s), []byte{8, 9, 10})
		before := bytes.Clone(whole)
		b := whole[:len(whole)-2]
		if _, _, err := Get(b, 1); err != nil || !bytes.Equal(whole, before) {
			t.Errorf("Get changes what is handed in: %v, %v", whole, err)
		}
		told, _, err := GetText(b, 1)
		if err != nil || !bytes.Equal(whole, before) {
			t.Errorf("GetText changes what is handed in: %v, %v", whole, err)
		}
		spoil(whole)
		if told != s {
			t.Errorf("GetText tells memory that is not new: %q", short(told))
		}
	}
	for _, s := range noTexts() {
		b := PutText(s)
		before := bytes.Clone(b)
		if GetText(b, 0); !bytes.Equal(b, before) {
			t.Errorf("GetText changes what it refuses: %v", b)
		}
	}
}
