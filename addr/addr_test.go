package addr

import (
	"fmt"
	"math"
	"strings"
	"testing"

	"pitot/api"
)

// noise is numbers that look like none, the same ones each time.
type noise uint64

func (x *noise) next() int {
	*x = *x*6364136223846793005 + 1442695040888963407
	return int(*x >> 33)
}

// among is one of few numbers.
func (x *noise) among(l ...int) int { return l[x.next()%len(l)] }

// P3.1: addresses that are known.
func TestLink(t *testing.T) {
	for vl, want := range map[int]MAC{
		1:          {0x03, 0, 0, 0, 0, 1},
		255:        {0x03, 0, 0, 0, 0, 0xFF},
		256:        {0x03, 0, 0, 0, 1, 0},
		258:        {0x03, 0, 0, 0, 1, 2},
		0x1234:     {0x03, 0, 0, 0, 0x12, 0x34},
		65534:      {0x03, 0, 0, 0, 0xFF, 0xFE},
		65535:      {0x03, 0, 0, 0, 0xFF, 0xFF},
		0x8000:     {0x03, 0, 0, 0, 0x80, 0},
		0x7F80 + 1: {0x03, 0, 0, 0, 0x7F, 0x81},
	} {
		if m, e := Link(vl); m != want || e != api.OK {
			t.Errorf("%d: % x, %d; want % x", vl, m, int(e), want)
		}
	}
}

// P3.1: addresses that are known.
func TestGroup(t *testing.T) {
	for vl, want := range map[int]IP{
		1:      {0xE0, 0xE0, 0, 1},
		255:    {0xE0, 0xE0, 0, 0xFF},
		256:    {0xE0, 0xE0, 1, 0},
		0x1234: {0xE0, 0xE0, 0x12, 0x34},
		65535:  {0xE0, 0xE0, 0xFF, 0xFF},
	} {
		if a, e := Group(vl); a != want || e != api.OK {
			t.Errorf("%d: % x, %d; want % x", vl, a, int(e), want)
		}
	}
}

// P3.1, R1: numbers that no virtual link has.
func TestNoLink(t *testing.T) {
	for _, vl := range []int{0, -1, 65536, 65537, -65535, 1 << 17, 1<<32 + 1, math.MaxInt, math.MinInt, math.MinInt + 1} {
		if m, e := Link(vl); m != (MAC{}) || e != api.ErrArg {
			t.Errorf("Link %d: % x, %d", vl, m, int(e))
		}
		if a, e := Group(vl); a != (IP{}) || e != api.ErrArg {
			t.Errorf("Group %d: % x, %d", vl, a, int(e))
		}
	}
}

// P3.1: addresses that are known.
func TestSource(t *testing.T) {
	for end, want := range map[End]MAC{
		{0, 0}:     {0x02, 0, 0, 0, 0, 0x20},
		{0, 1}:     {0x02, 0, 0, 0, 0, 0x40},
		{7, 1}:     {0x02, 0, 0, 0, 7, 0x40},
		{255, 0}:   {0x02, 0, 0, 0, 0xFF, 0x20},
		{256, 0}:   {0x02, 0, 0, 1, 0, 0x20},
		{4095, 0}:  {0x02, 0, 0, 0x0F, 0xFF, 0x20},
		{4095, 1}:  {0x02, 0, 0, 0x0F, 0xFF, 0x40},
		{0xABC, 1}: {0x02, 0, 0, 0x0A, 0xBC, 0x40},
	} {
		if m, e := Source(end); m != want || e != api.OK {
			t.Errorf("%v: % x, %d; want % x", end, m, int(e), want)
		}
	}
}

// P3.1, R1: numbers that no end system and no network has.
func TestNoSource(t *testing.T) {
	for _, end := range []End{
		{-1, 0}, {-1, 1}, {4096, 0}, {4096, 1}, {65536, 0}, {1 << 32, 1}, {math.MaxInt, 0}, {math.MinInt, 1},
		{0, -1}, {0, 2}, {4095, 2}, {4095, -1}, {1, 256}, {1, math.MaxInt}, {1, math.MinInt}, {1, 64},
		{-1, -1}, {4096, 2},
	} {
		if m, e := Source(end); m != (MAC{}) || e != api.ErrArg {
			t.Errorf("%v: % x, %d", end, m, int(e))
		}
	}
}

// P3.1: addresses that are known.
func TestPart(t *testing.T) {
	for of, want := range map[[2]int]IP{
		{0, 0}:      {0x0A, 0, 0, 0},
		{7, 2}:      {10, 0, 7, 2},
		{0, 255}:    {0x0A, 0, 0, 0xFF},
		{255, 1}:    {0x0A, 0, 0xFF, 1},
		{256, 0}:    {0x0A, 1, 0, 0},
		{258, 3}:    {10, 1, 2, 3},
		{4095, 0}:   {0x0A, 0x0F, 0xFF, 0},
		{4095, 255}: {0x0A, 0x0F, 0xFF, 0xFF},
	} {
		if a, e := Part(of[0], of[1]); a != want || e != api.OK {
			t.Errorf("%v: % x, %d; want % x", of, a, int(e), want)
		}
	}
}

// P3.1, R1: numbers that no end system and no partition has.
func TestNoPart(t *testing.T) {
	for _, of := range [][2]int{
		{-1, 0}, {4096, 0}, {65536, 0}, {math.MaxInt, 0}, {math.MinInt, 0}, {1 << 32, 0},
		{0, -1}, {0, 256}, {4095, 256}, {4095, -1}, {0, math.MaxInt}, {0, math.MinInt}, {0, 1 << 32},
		{-1, -1}, {4096, 256},
	} {
		if a, e := Part(of[0], of[1]); a != (IP{}) || e != api.ErrArg {
			t.Errorf("%v: % x, %d", of, a, int(e))
		}
	}
}

// linkOf and endOf are what an address is of, as the chapter's words go, byte by byte.
func linkOf(m MAC) (int, api.Errno) {
	vl := int(m[4])*256 + int(m[5])
	if m[0] != 3 || m[1] != 0 || m[2] != 0 || m[3] != 0 || vl == 0 {
		return 0, api.ErrAddr
	}
	return vl, api.OK
}

func endOf(m MAC) (End, api.Errno) {
	host := int(m[3])*256 + int(m[4])
	if m[0] != 2 || m[1] != 0 || m[2] != 0 || host > 4095 {
		return End{}, api.ErrAddr
	}
	switch m[5] {
	case 32:
		return End{host, 0}, api.OK
	case 64:
		return End{host, 1}, api.OK
	}
	return End{}, api.ErrAddr
}

func wantTold(t *testing.T, m MAC) {
	t.Helper()
	wantVL, code := linkOf(m)
	if vl, e := VL(m); vl != wantVL || e != code {
		t.Errorf("VL % x: %d, %d; want %d, %d", m, vl, int(e), wantVL, int(code))
	}
	wantEnd, code := endOf(m)
	if end, e := Of(m); end != wantEnd || e != code {
		t.Errorf("Of % x: %v, %d; want %v, %d", m, end, int(e), wantEnd, int(code))
	}
}

// P3.2: of addresses that are known.
func TestTold(t *testing.T) {
	if vl, e := VL(MAC{3, 0, 0, 0, 1, 2}); vl != 258 || e != api.OK {
		t.Error(vl, int(e))
	}
	if vl, e := VL(MAC{3, 0, 0, 0, 255, 255}); vl != 65535 || e != api.OK {
		t.Error(vl, int(e))
	}
	if end, e := Of(MAC{2, 0, 0, 0, 7, 0x40}); end != (End{7, 1}) || e != api.OK {
		t.Error(end, int(e))
	}
	if end, e := Of(MAC{2, 0, 0, 15, 255, 0x20}); end != (End{4095, 0}) || e != api.OK {
		t.Error(end, int(e))
	}
}

// P3.2, R1: what is the address of nothing.
func TestToldNothing(t *testing.T) {
	for _, m := range []MAC{
		{},
		{255, 255, 255, 255, 255, 255},
		{3, 0, 0, 0, 0, 0}, // the number 0 is no link's
		{2, 0, 0, 0, 0, 1},
		{1, 0, 0, 0, 0, 1},
		{4, 0, 0, 0, 0, 1},
		{3, 1, 0, 0, 0, 1},
		{3, 0, 1, 0, 0, 1},
		{3, 0, 0, 1, 0, 1},
		{0, 0, 0, 0, 0, 1},
		{0x83, 0, 0, 0, 0, 1},
		{2, 0, 0, 0x10, 0, 0x20}, // 4096
		{2, 0, 0, 0xFF, 0xFF, 0x40},
		{2, 0, 0, 0, 0, 0},
		{2, 0, 0, 0, 0, 0x10},
		{2, 0, 0, 0, 0, 0x21},
		{2, 0, 0, 0, 0, 0x60},
		{2, 0, 0, 0, 0, 0x80},
		{2, 1, 0, 0, 0, 0x20},
		{2, 0, 1, 0, 0, 0x40},
		{0, 0, 0, 0, 0, 0x20},
	} {
		if vl, e := VL(m); vl != 0 || e != api.ErrAddr {
			t.Errorf("VL % x: %d, %d", m, vl, int(e))
		}
		if end, e := Of(m); end != (End{}) || e != api.ErrAddr {
			t.Errorf("Of % x: %v, %d", m, end, int(e))
		}
	}
}

// P3.2: whatever bytes stand there.
func TestToldOfNoise(t *testing.T) {
	n := noise(1)
	for range 200000 {
		wantTold(t, MAC{
			byte(n.among(2, 3, 2, 3, n.next())),
			byte(n.among(0, 0, 0, 0, n.next())),
			byte(n.among(0, 0, 0, 0, n.next())),
			byte(n.among(0, 0, 15, 16, n.next())),
			byte(n.among(0, 255, n.next())),
			byte(n.among(0, 0x20, 0x40, n.next())),
		})
	}
}

// P3.2: another byte, at each place of an address that there is.
func TestToldOfOtherBytes(t *testing.T) {
	for _, m := range []MAC{{3, 0, 0, 0, 0, 1}, {3, 0, 0, 0, 1, 0}, {3, 0, 0, 0, 255, 255}, {2, 0, 0, 0, 0, 0x20}, {2, 0, 0, 15, 255, 0x40}} {
		for i := range m {
			for b := range 256 {
				other := m
				other[i] = byte(b)
				wantTold(t, other)
			}
		}
	}
}

func wantWhose(t *testing.T, a IP) {
	t.Helper()
	var want [3]int
	code := api.ErrAddr
	switch {
	case a[0] == 10 && a[1] < 16:
		want, code = [3]int{int(a[1])*256 + int(a[2]), int(a[3]), 0}, api.OK
	case a[0] == 224 && a[1] == 224 && (a[2] != 0 || a[3] != 0):
		want, code = [3]int{0, 0, int(a[2])*256 + int(a[3])}, api.OK
	}
	host, part, vl, e := Whose(a)
	if got := [3]int{host, part, vl}; got != want || e != code {
		t.Errorf("% x: %v, %d; want %v, %d", a, got, int(e), want, int(code))
	}
}

// P3.2: what an address of IP is, and what is none.
func TestWhose(t *testing.T) {
	for _, c := range []struct {
		a              IP
		host, part, vl int
		e              api.Errno
	}{
		{IP{10, 0, 7, 2}, 7, 2, 0, api.OK},
		{IP{10, 0, 0, 0}, 0, 0, 0, api.OK},
		{IP{10, 15, 255, 255}, 4095, 255, 0, api.OK},
		{IP{10, 16, 0, 0}, 0, 0, 0, api.ErrAddr},
		{IP{10, 224, 0, 1}, 0, 0, 0, api.ErrAddr},
		{IP{224, 224, 0, 1}, 0, 0, 1, api.OK},
		{IP{224, 224, 1, 2}, 0, 0, 258, api.OK},
		{IP{224, 224, 255, 255}, 0, 0, 65535, api.OK},
		{IP{224, 224, 0, 0}, 0, 0, 0, api.ErrAddr},
		{IP{224, 225, 0, 1}, 0, 0, 0, api.ErrAddr},
		{IP{225, 224, 0, 1}, 0, 0, 0, api.ErrAddr},
		{IP{224, 0, 0, 1}, 0, 0, 0, api.ErrAddr},
		{IP{11, 0, 0, 1}, 0, 0, 0, api.ErrAddr},
		{IP{9, 0, 0, 1}, 0, 0, 0, api.ErrAddr},
		{IP{}, 0, 0, 0, api.ErrAddr},
		{IP{0, 16, 0, 0}, 0, 0, 0, api.ErrAddr},
		{IP{255, 255, 255, 255}, 0, 0, 0, api.ErrAddr},
	} {
		host, part, vl, e := Whose(c.a)
		if host != c.host || part != c.part || vl != c.vl || e != c.e {
			t.Errorf("% x: %d, %d, %d, %d", c.a, host, part, vl, int(e))
		}
	}
	n := noise(2)
	for range 200000 {
		wantWhose(t, IP{
			byte(n.among(10, 224, n.next())),
			byte(n.among(0, 15, 16, 224, n.next())),
			byte(n.among(0, n.next())),
			byte(n.among(0, n.next())),
		})
	}
}

// P3.4: all that may have an address is told by it; so unlike ones have unlike addresses.
func TestAllToldByAddress(t *testing.T) {
	for vl := 1; vl <= api.MaxVL; vl++ {
		m, e := Link(vl)
		back, f := VL(m)
		if _, g := Of(m); e != api.OK || back != vl || f != api.OK || g != api.ErrAddr {
			t.Fatalf("link %d: % x, %d", vl, m, back)
		}
		a, e := Group(vl)
		if host, part, back, f := Whose(a); e != api.OK || host != 0 || part != 0 || back != vl || f != api.OK {
			t.Fatalf("group %d: % x, %d", vl, a, back)
		}
	}
	for host := range 4096 {
		for net := range 2 {
			m, e := Source(End{host, net})
			back, f := Of(m)
			if _, g := VL(m); e != api.OK || back != (End{host, net}) || f != api.OK || g != api.ErrAddr {
				t.Fatalf("%d at %d: % x, %v", host, net, m, back)
			}
		}
		for part := range 256 {
			a, e := Part(host, part)
			if h, p, vl, f := Whose(a); e != api.OK || h != host || p != part || vl != 0 || f != api.OK {
				t.Fatalf("%d of %d: % x", part, host, a)
			}
		}
	}
}

// P3.2: texts that are known.
func TestPrint(t *testing.T) {
	for m, want := range map[MAC]string{
		{}:                                   "00:00:00:00:00:00",
		{255, 255, 255, 255, 255, 255}:       "ff:ff:ff:ff:ff:ff",
		{3, 0, 0, 0, 1, 2}:                   "03:00:00:00:01:02",
		{0x01, 0x23, 0x45, 0x67, 0x89, 0xAB}: "01:23:45:67:89:ab",
		{0xCD, 0xEF, 0x0A, 0xA0, 0x90, 0x09}: "cd:ef:0a:a0:90:09",
	} {
		if s := m.Print(); s != want {
			t.Errorf("% x: %q; want %q", m, s, want)
		}
	}
}

// P3.2, P3.4, T1: each byte, at each place, there and back.
func TestPrintAndParse(t *testing.T) {
	for i := range 6 {
		for b := range 256 {
			m := MAC{0x12, 0x34, 0x56, 0x78, 0x9A, 0xBC}
			m[i] = byte(b)
			s := m.Print()
			if want := fmt.Sprintf("%02x:%02x:%02x:%02x:%02x:%02x", m[0], m[1], m[2], m[3], m[4], m[5]); s != want {
				t.Errorf("% x: %q; want %q", m, s, want)
			}
			if back, e := Parse(s); back != m || e != api.OK {
				t.Errorf("%q: % x, %d", s, back, int(e))
			}
		}
	}
}

func wantNoAddress(t *testing.T, s string) {
	t.Helper()
	if m, e := Parse(s); m != (MAC{}) || e != api.ErrAddr {
		t.Errorf("%q: % x, %d", s, m, int(e))
	}
}

// P3.2, R1: texts that are no address.
func TestParseRefuses(t *testing.T) {
	for _, s := range []string{
		"",
		":",
		":::::",
		"03",
		"03:00:00:00:01",
		"03:00:00:00:01:",
		"03:00:00:00:01:0",
		"03:00:00:00:01:2",
		"3:00:00:00:01:002",
		"03:00:00:00:01:02:",
		"03:00:00:00:01:02:03",
		":03:00:00:00:01:02",
		" 03:00:00:00:01:02",
		"03:00:00:00:01:02 ",
		"03:00:00:00:01:02\n",
		"03:00:00:00:01:02\x00",
		"03-00-00-00-01-02",
		"03.00.00.00.01.02",
		"03 00 00 00 01 02",
		"030000000102",
		"0300000001020000:",
		"03:00:00:00:01:0A",
		"FF:FF:FF:FF:FF:FF",
		"0g:00:00:00:01:02",
		"0x:00:00:00:01:02",
		"+3:00:00:00:01:02",
		"-3:00:00:00:01:02",
		"_3:00:00:00:01:02",
		" 3:00:00:00:01:02",
		"ÿ:00:00:00:01:02",
		"\xff\xff:00:00:00:01:02",
		"\x00\x00:\x00\x00:\x00\x00:\x00\x00:\x00\x00:\x00\x00",
		strings.Repeat(":", 17),
		strings.Repeat("0", 17),
		strings.Repeat("00:", 100000),
	} {
		wantNoAddress(t, s)
	}
}

// P3.2: cut anywhere, or with another byte at any place, a text is an address only where it is the Print of one.
func TestParseOfOtherBytes(t *testing.T) {
	for _, s := range []string{"03:00:00:00:01:02", "ff:ff:ff:ff:ff:ff", "01:23:45:67:89:ab"} {
		for i := range len(s) {
			wantNoAddress(t, s[:i])
			wantNoAddress(t, s[i+1:])
			wantNoAddress(t, s[:i]+s[i+1:])
			wantNoAddress(t, s[:i]+"0"+s[i:])
			for c := range 256 {
				b := []byte(s)
				b[i] = byte(c)
				may := strings.IndexByte("0123456789abcdef", byte(c)) >= 0
				if i%3 == 2 {
					may = c == ':'
				}
				if !may {
					wantNoAddress(t, string(b))
				} else if m, e := Parse(string(b)); e != api.OK || m.Print() != string(b) {
					t.Errorf("%q: % x, %d", b, m, int(e))
				}
			}
		}
	}
}

// The ways of the layer: addresses are arrays, which are values.
func TestWays(t *testing.T) {
	var m [6]byte = MAC{1}
	var a [4]byte = IP{1}
	if m != (MAC{1}) || a != (IP{1}) {
		t.Error(m, a)
	}
}
