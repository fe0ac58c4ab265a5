package addr

import (
	"bytes"
	"math"
	"slices"
	"testing"
)

func wantGet(t *testing.T, b *Book, m MAC, want int, there bool) {
	t.Helper()
	if n, is := b.Get(m); n != want || is != there {
		t.Errorf("% x: %d, %v; want %d, %v", m, n, is, want, there)
	}
}

func wantPut(t *testing.T, b *Book, m MAC, n, elder int, there bool) {
	t.Helper()
	if got, had := b.Put(m, n); got != elder || had != there {
		t.Errorf("% x: %d, %v; want %d, %v", m, got, had, elder, there)
	}
}

func wantAll(t *testing.T, b *Book, want ...MAC) {
	t.Helper()
	if l := b.All(); !slices.Equal(l, want) {
		t.Errorf("% x; want % x", l, want)
	}
}

// P3.3: the zero Book has nothing.
func TestZeroBook(t *testing.T) {
	var b Book
	for _, m := range []MAC{{}, {1}, {3, 0, 0, 0, 0, 1}} {
		wantGet(t, &b, m, 0, false)
		if b.Drop(m) {
			t.Errorf("% x is dropped", m)
		}
	}
	wantAll(t, &b)
	wantPut(t, &b, MAC{}, 5, 0, false)
	wantGet(t, &b, MAC{}, 5, true)
}

// P3.3, R1: of a nil Book 0, false, nothing, whatever was put.
func TestNilBook(t *testing.T) {
	var b *Book
	for range 2 {
		wantPut(t, b, MAC{1}, 5, 0, false)
		wantGet(t, b, MAC{1}, 0, false)
		wantAll(t, b)
		if b.Drop(MAC{1}) {
			t.Error("it is dropped")
		}
	}
}

// P3.3: whatever number is noted, the elder one is told.
func TestPut(t *testing.T) {
	b := &Book{}
	m := MAC{3, 0, 0, 0, 0, 1}
	elder, had := 0, false
	for _, n := range []int{5, 0, 0, -1, math.MaxInt, math.MinInt, 7, 7} {
		wantPut(t, b, m, n, elder, had)
		wantGet(t, b, m, n, true)
		wantAll(t, b, m)
		elder, had = n, true
	}
}

// P3.3: what is dropped is forgotten, and may be noted anew; the number 0 is one too.
func TestDrop(t *testing.T) {
	b := &Book{}
	m := MAC{2, 0, 0, 0, 0, 0x20}
	for _, n := range []int{0, 9} {
		wantPut(t, b, m, n, 0, false)
		if !b.Drop(m) {
			t.Error("it was there")
		}
		wantGet(t, b, m, 0, false)
		wantAll(t, b)
		if b.Drop(m) {
			t.Error("it is dropped twice")
		}
	}
}

// P3.3: rising, byte by byte, bytes above 127 behind those below.
func TestAllRises(t *testing.T) {
	want := []MAC{
		{},
		{0, 0, 0, 0, 0, 1},
		{0, 0, 0, 0, 0, 0x7F},
		{0, 0, 0, 0, 0, 0x80},
		{0, 0, 0, 0, 0, 0xFF},
		{0, 0, 0, 0, 1, 0},
		{0, 0, 0, 1},
		{0, 0, 1},
		{0, 1},
		{0, 255, 255, 255, 255, 255},
		{1},
		{1, 0, 0, 0, 0, 1},
		{2, 0, 0, 0, 0, 0x20},
		{3, 0, 0, 0, 0, 1},
		{127, 255},
		{128},
		{255, 255, 255, 255, 255, 255},
	}
	up, down := &Book{}, &Book{}
	for i := range want {
		up.Put(want[i], i)
		down.Put(want[len(want)-1-i], i)
	}
	for range 20 {
		wantAll(t, up, want...)
		wantAll(t, down, want...)
	}
}

// P3.3, R2: the list is its caller's.
func TestAllAlone(t *testing.T) {
	b := &Book{}
	x, y := MAC{1}, MAC{2}
	b.Put(x, 5)
	b.Put(y, 6)
	l, other := b.All(), b.All()
	l[0] = MAC{9}
	l = append(l[:1], MAC{8})
	if !slices.Equal(other, []MAC{x, y}) {
		t.Error(other, l)
	}
	wantAll(t, b, x, y)
	wantGet(t, b, MAC{9}, 0, false)
	b.Drop(x)
	b.Put(MAC{0, 1}, 7)
	if !slices.Equal(other, []MAC{x, y}) {
		t.Error("a list that was answered is changed", other)
	}
}

// P3.4: what was noted stays, whatever is noted for others that are unlike it in one bit.
func TestOthersStay(t *testing.T) {
	b := &Book{}
	m := MAC{3, 0, 0, 0, 0, 1}
	b.Put(m, 5)
	for i := range m {
		for bit := range 8 {
			other := m
			other[i] ^= 1 << bit
			wantPut(t, b, other, 100*i+bit, 0, false)
			wantGet(t, b, m, 5, true)
		}
	}
	for i := range m {
		for bit := range 8 {
			other := m
			other[i] ^= 1 << bit
			wantGet(t, b, other, 100*i+bit, true)
			if !b.Drop(other) {
				t.Errorf("% x was there", other)
			}
			wantGet(t, b, m, 5, true)
		}
	}
	wantAll(t, b, m)
}

// R3: one Book knows nothing of another one.
func TestBooksAlone(t *testing.T) {
	x, y := &Book{}, &Book{}
	m := MAC{3, 0, 0, 0, 0, 1}
	x.Put(m, 5)
	wantGet(t, y, m, 0, false)
	wantPut(t, y, m, 6, 0, false)
	x.Drop(m)
	wantGet(t, y, m, 6, true)
	wantAll(t, x)
	wantAll(t, y, m)
}

// oneNote is a note of a book that is kept as a plain list.
type oneNote struct {
	m MAC
	n int
}

func at(l []oneNote, m MAC) int {
	return slices.IndexFunc(l, func(x oneNote) bool { return x.m == m })
}

// P3.3, P3.4: many calls, held against a plain list.
func TestBookOfNoise(t *testing.T) {
	r := noise(3)
	b := &Book{}
	var l []oneNote
	for range 20000 {
		m := MAC{byte(r.next() % 3), 5: byte(r.next() % 5 * 63)}
		i := at(l, m)
		elder := 0
		if i >= 0 {
			elder = l[i].n
		}
		switch r.next() % 4 {
		case 0:
			n := r.next()%7 - 3
			wantPut(t, b, m, n, elder, i >= 0)
			if i >= 0 {
				l[i].n = n
			} else {
				l = append(l, oneNote{m, n})
			}
		case 1:
			wantGet(t, b, m, elder, i >= 0)
		case 2:
			if b.Drop(m) != (i >= 0) {
				t.Errorf("Drop % x", m)
			}
			if i >= 0 {
				l = slices.Delete(l, i, i+1)
			}
		case 3:
			var want []MAC
			for _, x := range l {
				want = append(want, x.m)
			}
			slices.SortFunc(want, func(x, y MAC) int { return bytes.Compare(x[:], y[:]) })
			wantAll(t, b, want...)
		}
	}
}

// P3.3, R1: all virtual links, and all end systems, in one Book.
func TestBookOfAll(t *testing.T) {
	b := &Book{}
	for vl := 65535; vl >= 1; vl-- {
		m, _ := Link(vl)
		wantPut(t, b, m, vl, 0, false)
	}
	for host := range 4096 {
		for net := range 2 {
			m, _ := Source(End{host, net})
			wantPut(t, b, m, -host, 0, false)
		}
	}
	l := b.All()
	if len(l) != 65535+2*4096 {
		t.Fatal(len(l))
	}
	for i, m := range l {
		if i > 0 && bytes.Compare(l[i-1][:], m[:]) >= 0 {
			t.Fatalf("% x behind % x", m, l[i-1])
		}
		want, _ := VL(m)
		if end, e := Of(m); e == 0 {
			want = -end.Host
		}
		wantGet(t, b, m, want, true)
	}
}
