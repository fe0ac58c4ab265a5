package crc

import (
	"hash/crc32"
	"slices"
	"strings"
	"testing"

	"pitot/api"
)

// noise is numbers that look like none, the same ones each time.
type noise uint64

func (x *noise) next() int {
	*x = *x*6364136223846793005 + 1442695040888963407
	return int(*x >> 33)
}

func (x *noise) text(n int) string {
	b := make([]byte, n)
	for i := range b {
		b[i] = byte(x.next())
	}
	return string(b)
}

// intoOne is a number into which a byte is taken, as the chapter's words go.
func intoOne(c uint32, b byte) uint32 {
	c = c ^ uint32(b)
	for range 8 {
		low := c % 2
		c = c / 2
		if low == 1 {
			c = c ^ 0xedb88320
		}
	}
	return c
}

// into is a number into which all bytes of a text are taken.
func into(c uint32, s string) uint32 {
	for _, b := range []byte(s) {
		c = intoOne(c, b)
	}
	return c
}

// P2.1: each place of the table.
func TestMake(t *testing.T) {
	x := Make()
	for b := range 256 {
		if want := intoOne(0, byte(b)); x[b] != want || x[b] != crc32.IEEETable[b] {
			t.Errorf("%d: %08x; want %08x", b, x[b], want)
		}
	}
	for b, want := range map[byte]uint32{0: 0, 1: 0x77073096, 2: 0xee0e612c, 128: 0xedb88320, 255: 0x2d02ef8d} {
		if x[b] != want {
			t.Errorf("%d: %08x; want %08x", b, x[b], want)
		}
	}
}

// P2.1: from each number on, with each byte.
func TestGo(t *testing.T) {
	x := Make()
	n := noise(1)
	starts := []uint32{0, 1, 127, 128, 255, 256, 1 << 31, 1<<31 - 1, 1<<32 - 1, 0xedb88320, 0xffffff00}
	for range 50 {
		starts = append(starts, uint32(n.next()*2))
	}
	for _, c := range starts {
		if got := x.Go(c, ""); got != c {
			t.Errorf("%08x, no bytes: %08x", c, got)
		}
		for b := range 256 {
			s := string([]byte{byte(b)})
			if got, want := x.Go(c, s), intoOne(c, byte(b)); got != want {
				t.Errorf("%08x, %x: %08x; want %08x", c, s, got, want)
			}
		}
		for long := range 70 {
			s := n.text(long)
			want := into(c, s)
			if got := x.Go(c, s); got != want || got != ^crc32.Update(^c, crc32.IEEETable, []byte(s)) {
				t.Errorf("%08x, %x: %08x; want %08x", c, s, got, want)
			}
		}
	}
}

// P2.1: bytes are taken in as bytes, whatever signs they make.
func TestGoTakesBytes(t *testing.T) {
	const s = "é漢\xff\xfe\x00\xed\xa0\x80"
	if got, want := Make().Go(5, s), into(5, s); got != want {
		t.Errorf("%08x; want %08x", got, want)
	}
}

// P2.1, R1: of a nil table the number is as it was.
func TestNilTable(t *testing.T) {
	var x *Table
	for _, c := range []uint32{0, 7, 1<<32 - 1} {
		for _, s := range []string{"", "a", strings.Repeat("abc", 1000)} {
			if got := x.Go(c, s); got != c {
				t.Errorf("%08x, %d bytes: %08x", c, len(s), got)
			}
		}
	}
}

// P2.2: sums that are known.
func TestSum(t *testing.T) {
	for _, c := range []struct {
		l    []string
		want uint32
	}{
		{nil, 0},
		{[]string{""}, 0},
		{[]string{"", "", ""}, 0},
		{[]string{"123456789"}, 0xcbf43926},
		{[]string{"1234", "56789"}, 0xcbf43926},
		{[]string{"", "1", "", "2345678", "9", ""}, 0xcbf43926},
		{[]string{"a"}, 0xe8b7be43},
		{[]string{"abc"}, 0x352441c2},
		{[]string{"\x00"}, 0xd202ef8d},
		{[]string{"\xff\xff\xff\xff"}, 0xffffffff},
		{[]string{strings.Repeat("\x00", 32)}, 0x190a55ad},
		{[]string{strings.Repeat("\xff", 32)}, 0xff6cab0b},
		{[]string{"The quick brown fox ", "jumps over the lazy dog"}, 0x414fa339},
	} {
		if n := Sum(c.l...); n != c.want {
			t.Errorf("%q: %08x; want %08x", c.l, n, c.want)
		}
	}
}

// P2.2: the order of the texts counts.
func TestSumInOrder(t *testing.T) {
	if Sum("ab", "cd") != Sum("abcd") || Sum("cd", "ab") != Sum("cdab") || Sum("ab", "cd") == Sum("cd", "ab") {
		t.Error(Sum("ab", "cd"), Sum("cd", "ab"))
	}
}

// P2.2: of texts of all lengths.
func TestSumOfNoise(t *testing.T) {
	n := noise(2)
	for long := range 1600 {
		s := n.text(long)
		if got, want := Sum(s), crc32.ChecksumIEEE([]byte(s)); got != want {
			t.Errorf("%d bytes: %08x; want %08x", long, got, want)
		}
	}
}

// P2.2, R1: long texts, and many of them.
func TestSumOfMuch(t *testing.T) {
	n := noise(3)
	s := n.text(1 << 20)
	want := crc32.ChecksumIEEE([]byte(s))
	if got := Sum(s); got != want {
		t.Errorf("one text: %08x; want %08x", got, want)
	}
	l := make([]string, len(s))
	for i := range l {
		l[i] = s[i : i+1]
	}
	if got := Sum(l...); got != want {
		t.Errorf("many texts: %08x; want %08x", got, want)
	}
}

// P2.3: a sum goes on over what comes behind, wherever the text is cut.
func TestSumGoesOn(t *testing.T) {
	x := Make()
	n := noise(4)
	for long := range 100 {
		s := n.text(long)
		want := Sum(s)
		for i := range long + 1 {
			if got := Sum(s[:i], s[i:]); got != want {
				t.Fatalf("%x cut at %d: %08x; want %08x", s, i, got, want)
			}
			if got := ^x.Go(^Sum(s[:i]), s[i:]); got != want {
				t.Fatalf("%x going on at %d: %08x; want %08x", s, i, got, want)
			}
			if got := x.Go(x.Go(7, s[:i]), s[i:]); got != x.Go(7, s) {
				t.Fatalf("%x of 7, cut at %d: %08x", s, i, got)
			}
		}
	}
}

// P2.2: the sum stands behind the text, its lowest byte first.
func TestSeal(t *testing.T) {
	for s, want := range map[string]string{
		"":                 "\x00\x00\x00\x00",
		"123456789":        "123456789\x26\x39\xf4\xcb",
		"a":                "a\x43\xbe\xb7\xe8",
		"\x00":             "\x00\x8d\xef\x02\xd2",
		"\x00\x00\x00\x00": "\x00\x00\x00\x00\x1c\xdf\x44\x21",
	} {
		if got := Seal(s); got != want {
			t.Errorf("%x: %x; want %x", s, got, want)
		}
	}
}

func wantOpen(t *testing.T, s, want string, code api.Errno) {
	t.Helper()
	if got, e := Open(s); got != want || e != code {
		t.Errorf("%x: %x, %d; want %x, %d", s, got, int(e), want, int(code))
	}
}

// P2.2, R1: fewer than four bytes are too short, whatever they are.
func TestOpenShort(t *testing.T) {
	for _, s := range []string{"", "a", "ab", "abc", "\x00", "\x00\x00", "\x00\x00\x00", "\xff\xff\xff"} {
		wantOpen(t, s, "", api.ErrShort)
	}
	sealed := Seal("")
	for i := range sealed {
		wantOpen(t, sealed[:i], "", api.ErrShort)
	}
}

// P2.2, R1: other sums than the text's own.
func TestOpenRefuses(t *testing.T) {
	for _, s := range []string{
		"abcd",
		"\x00\x00\x00\x01",
		"\x01\x00\x00\x00",
		"\xff\xff\xff\xff",
		"123456789",
		"123456789\xcb\xf4\x39\x26", // the highest byte first
		"123456789\xd9\xc6\x0b\x34", // not turned about
		"123456789\x26\x39\xf4\xcb\x00",
		"\x00123456789\x26\x39\xf4\xcb",
		"23456789\x26\x39\xf4\xcb",
		"\x00\x00\x00\x00\x00",
		"\x00\x00\x00\x00\x00\x00\x00\x00",
	} {
		wantOpen(t, s, "", api.ErrSum)
	}
}

// P2.3, T1: what was sealed is opened, and what is opened is sealed as the same bytes.
func TestSealedIsOpened(t *testing.T) {
	n := noise(5)
	for long := range 1600 {
		for _, s := range []string{n.text(long), strings.Repeat("\x00", long), strings.Repeat("\xff", long)} {
			sealed := Seal(s)
			if len(sealed) != long+4 || sealed[:long] != s {
				t.Fatalf("%x: %x", s, sealed)
			}
			wantOpen(t, sealed, s, api.OK)
		}
	}
	twice := Seal(Seal("abc"))
	wantOpen(t, twice, Seal("abc"), api.OK)
}

// T1: whatever bytes are opened, they are the Seal of what is answered.
func TestOpenedIsSealed(t *testing.T) {
	n := noise(6)
	for range 20000 {
		s := n.text(n.next() % 12)
		text, e := Open(s)
		switch {
		case e == api.OK && Seal(text) != s:
			t.Errorf("%x: %x", s, text)
		case e == api.ErrShort && len(s) >= 4, e == api.ErrSum && len(s) < 4:
			t.Errorf("%x: %d", s, int(e))
		case e == api.ErrSum && Seal(s[:len(s)-4]) == s:
			t.Errorf("%x: its sum is right", s)
		case e != api.OK && text != "":
			t.Errorf("%x: %x with %d", s, text, int(e))
		}
	}
}

// P2.3: a byte that is another one is told, at each place, whichever it is.
func TestOneOtherByte(t *testing.T) {
	n := noise(7)
	for long := range 40 {
		wantOtherBytesTold(t, Seal(n.text(long)), 1)
	}
	for _, long := range []int{64, 255, 1518} {
		wantOtherBytesTold(t, Seal(n.text(long)), 37)
	}
}

// wantOtherBytesTold puts another byte at each place of a sealed text, so far apart.
func wantOtherBytesTold(t *testing.T, sealed string, step int) {
	t.Helper()
	for i := range len(sealed) {
		b := []byte(sealed)
		for turn := 1; turn < 256; turn += step {
			b[i] = sealed[i] ^ byte(turn)
			wantOpen(t, string(b), "", api.ErrSum)
		}
	}
}

// R2: the list that is handed in stays as it is, behind its length too.
func TestSumLeavesList(t *testing.T) {
	l := []string{"12", "", "3456789", "behind"}
	if n := Sum(l[:3]...); n != 0xcbf43926 {
		t.Errorf("%08x", n)
	}
	if !slices.Equal(l, []string{"12", "", "3456789", "behind"}) {
		t.Error(l)
	}
}

// R2, R3: a table is its caller's, and nobody else's sums hang on it.
func TestTablesAlone(t *testing.T) {
	x, y := Make(), Make()
	if x == y || *x != *y {
		t.Error("tables that are made")
	}
	for i := range x {
		x[i] = 7
	}
	if *y != *Make() || y.Go(0, "a") != intoOne(0, 'a') {
		t.Error("another table is changed")
	}
	if Sum("123456789") != 0xcbf43926 {
		t.Error("Sum is changed")
	}
	wantOpen(t, Seal("abc"), "abc", api.OK)
	before := *y
	y.Go(1, "abc")
	if *y != before {
		t.Error("Go writes into its table")
	}
}

// The ways of the layer: the table is an array, and texts are variadic.
func TestWays(t *testing.T) {
	var table [256]uint32 = *Make()
	var sum func(...string) uint32 = Sum
	if table[1] != 0x77073096 || sum("1234", "56789") != 0xcbf43926 {
		t.Error(table[1])
	}
}
