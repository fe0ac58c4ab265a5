package bits

import (
	"slices"
	"strings"
	"testing"

	"pitot/api"
)

// noise is numbers that look like none, the same ones each time.
type noise uint64

func (x *noise) next() int {
	*x = *x*6364136223846793005 + 1442695040888963407
	return int(*x >> 33)
}

func (x *noise) text(n int) string {
	b := make([]byte, n)
	for i := range b {
		b[i] = byte(x.next())
	}
	return string(b)
}

// P1.3
func TestOnes(t *testing.T) {
	for _, c := range []struct {
		s    string
		want int
	}{
		{"", 0xffff},
		{"\x00", 0xffff},
		{"\x00\x00", 0xffff},
		{"\x45\x00", 0xbaff},
		{"\x45", 0xbaff},
		{"\x00\x45", 0xffba},
		{"\x00\x45\x00", 0xffba},
		{"\x00\x00\x45", 0xbaff},
		{"\xff\xff", 0},
		{"\xff\xff\xff\xff", 0},
		{"\xff\xff\x00\x01", 0xfffe},
		{"\x80\x00\x80\x00", 0xfffe},
		{"\xff\xfe\x00\x01", 0},
		{"\x00\x01\xf2\x03\xf4\xf5\xf6\xf7", 0x220d},
		{"\x45\x00\x00\x73\x00\x00\x40\x00\x40\x11\x00\x00\xc0\xa8\x00\x01\xc0\xa8\x00\xc7", 0xb861},
		// The sum is 10000FFFF: what is above its 16 bits is to be added three times.
		{strings.Repeat("\xff\xff", 65538) + "\x00\x01", 0xfffe},
		{strings.Repeat("\xff", 1<<20), 0},
	} {
		if n := Ones(c.s); n != c.want {
			t.Errorf("%d bytes: %04x; want %04x", len(c.s), n, c.want)
		}
	}
}

// P1.3: folding at each number comes to the same as folding at last.
func TestOnesOfNoise(t *testing.T) {
	x := noise(1)
	for long := range 300 {
		s := x.text(long)
		sum := 0
		padded := s + "\x00"
		for i := 0; i < len(s); i += 2 {
			sum += int(padded[i])*256 + int(padded[i+1])
			if sum > 65535 {
				sum -= 65535
			}
		}
		if n := Ones(s); n != 65535-sum {
			t.Errorf("%x: %04x; want %04x", s, n, 65535-sum)
		}
	}
}

// P1.4: a text of an even length with its Ones behind has the Ones 0.
func TestOnesBehind(t *testing.T) {
	x := noise(2)
	for long := 0; long < 300; long += 2 {
		for _, s := range []string{x.text(long), strings.Repeat("\x00", long), strings.Repeat("\xff", long)} {
			w := &Writer{}
			w.Text(s)
			w.U16(Ones(s))
			sealed, e := w.Bytes()
			if n := Ones(sealed); n != 0 || e != api.OK {
				t.Errorf("%x: %04x %d", s, n, int(e))
			}
		}
	}
}

// cut is widths that come to so many bits together.
func (x *noise) cut(all int) []int {
	var wide []int
	for all > 0 {
		w := x.next()%all + 1
		wide = append(wide, w)
		all -= w
	}
	return wide
}

// P1.4: what was written is read, numbers of all widths with texts between them.
func TestWrittenIsRead(t *testing.T) {
	x := noise(3)
	for range 2000 {
		wide := x.cut([]int{8, 16, 32}[x.next()%3])
		var l []int
		for _, w := range wide {
			greatest := 1<<w - 1
			l = append(l, []int{0, greatest, x.next() & greatest}[x.next()%3])
		}
		s := x.text(x.next() % 100)
		n8, n16, n32 := x.next()%256, x.next()%65536, x.next()*2+1
		w := &Writer{}
		w.U8(n8)
		w.Bits(wide, l...)
		w.U16(n16)
		w.Text(s)
		w.U32(n32)
		all, e := w.Bytes()
		r := Read(all)
		if e != api.OK || r.U8() != n8 || !slices.Equal(r.Bits(wide...), l) || r.U16() != n16 || r.Text(len(s)) != s || r.U32() != n32 {
			t.Fatalf("%v %v %x: %x", wide, l, s, all)
		}
		wantState(t, "behind all", r, 0, api.OK)
	}
}

// P1.4, T1: all numbers of two widths, each the other way about too.
func TestAllOfSixteen(t *testing.T) {
	for n := range 65536 {
		w := &Writer{}
		w.U16(n)
		s, _ := w.Bytes()
		if s != string([]byte{byte(n / 256), byte(n % 256)}) || Read(s).U16() != n {
			t.Fatal(n)
		}
		first := n%15 + 1
		l := Read(s).Bits(first, 16-first)
		again := &Writer{}
		again.Bits([]int{first, 16 - first}, l...)
		if l[0] != n>>(16-first) || l[1] != n%(1<<(16-first)) {
			t.Fatal(n, first, l)
		}
		wantBytes(t, "again", again, s, api.OK)
	}
}

// The way of the layer: numbers, and widths, are variadic.
func TestVariadic(t *testing.T) {
	var write func([]int, ...int) = new(Writer).Bits
	var read func(...int) []int = Read("a").Bits
	write([]int{8}, 'a')
	if l := read(8); len(l) != 1 || l[0] != 'a' {
		t.Error(l)
	}
}
