package frag

import (
	"go/ast"
	"go/parser"
	"go/token"
	"math"
	"slices"
	"strings"
	"testing"

	"pitot/addr"
	"pitot/api"
	"pitot/ether"
	"pitot/ipv4"
)

// noise is numbers that look like none, the same ones each time.
type noise uint64

func (x *noise) next() int {
	*x = *x*6364136223846793005 + 1442695040888963407
	return int(*x >> 33)
}

// among is one of few numbers.
func (x *noise) among(l ...int) int { return l[x.next()%len(l)] }

func (x *noise) text(n int) string {
	b := make([]byte, n)
	for i := range b {
		b[i] = byte(x.next())
	}
	return string(b)
}

func (x *noise) ip() addr.IP { return addr.IP([]byte(x.text(4))) }

// packet is a whole one, with so many bytes of Data.
func (x *noise) packet(long int) ipv4.Packet {
	return ipv4.Packet{ID: x.next() % 65536, TTL: x.next() % 256, Proto: x.next() % 256, Src: x.ip(), Dst: x.ip(), Data: x.text(long)}
}

// carried is how many bytes a packet has in a frame of so many: 19 are the frame's own, 20 the packet's.
func carried(smax int) int { return smax - 19 - 20 }

// eights is the greatest multiple of 8 that is no more than a number.
func eights(n int) int {
	for n%8 != 0 {
		n--
	}
	return n
}

// odd is numbers that are far from those that may be, or next to them once they are cut to fewer bits.
func odd() []int {
	return []int{1<<16 + 64, 1<<31 - 1, 1 << 31, 1 << 32, 1<<32 + 64, 1<<61 + 64, math.MaxInt, math.MaxInt - 39, -1, -39, -64, -1 << 32, math.MinInt, math.MinInt + 38, math.MinInt + 64}
}

// brief is a packet, told without all of its Data.
func brief(p ipv4.Packet) []any {
	return []any{p.ID, p.More, p.Off, p.TTL, p.Proto, p.Src, p.Dst, len(p.Data), p.Data[:min(len(p.Data), 20)]}
}

func briefs(l []ipv4.Packet) [][]any {
	var all [][]any
	for _, p := range l[:min(len(l), 8)] {
		all = append(all, brief(p))
	}
	return all
}

func mustSplit(t *testing.T, p ipv4.Packet, smax int) []ipv4.Packet {
	t.Helper()
	l, wrong := Split(p, smax)
	if wrong != api.OK {
		t.Fatalf("%v, %d: %d", brief(p), smax, int(wrong))
	}
	return l
}

func wantNoParts(t *testing.T, p ipv4.Packet, smax int, code api.Errno) {
	t.Helper()
	if l, wrong := Split(p, smax); len(l) != 0 || wrong != code {
		t.Errorf("%v, %d: %d parts, %d; want %d", brief(p), smax, len(l), int(wrong), int(code))
	}
}

func wantCount(t *testing.T, long, smax, want int, code api.Errno) {
	t.Helper()
	if n, wrong := Count(long, smax); n != want || wrong != code {
		t.Errorf("%d, %d: %d, %d; want %d, %d", long, smax, n, int(wrong), want, int(code))
	}
}

func wantPacket(t *testing.T, l []ipv4.Packet, want ipv4.Packet) {
	t.Helper()
	if p, wrong := Join(l); p != want || wrong != api.OK {
		t.Errorf("%v: %v, %d; want %v", briefs(l), brief(p), int(wrong), brief(want))
	}
}

func wantNoPacket(t *testing.T, l []ipv4.Packet, code api.Errno) {
	t.Helper()
	if p, wrong := Join(l); p != (ipv4.Packet{}) || wrong != code {
		t.Errorf("%d, %v: %v, %d; want %d", len(l), briefs(l), brief(p), int(wrong), int(code))
	}
}

// P8.1: at all sizes of frames, and at those that no frame has.
func TestRoom(t *testing.T) {
	for smax := -100; smax < 3000; smax++ {
		want, code := 0, api.ErrArg
		if smax >= 64 && smax <= 1518 {
			want, code = eights(carried(smax)), api.OK
		}
		if n, wrong := Room(smax); n != want || wrong != code {
			t.Errorf("%d: %d, %d; want %d, %d", smax, n, int(wrong), want, int(code))
		}
	}
	for smax, want := range map[int]int{64: 24, 70: 24, 71: 32, 78: 32, 79: 40, 1510: 1464, 1511: 1472, 1518: 1472} {
		if n, wrong := Room(smax); n != want || wrong != api.OK {
			t.Errorf("%d: %d, %d; want %d", smax, n, int(wrong), want)
		}
	}
	for _, smax := range odd() {
		if n, wrong := Room(smax); n != 0 || wrong != api.ErrArg {
			t.Errorf("%d: %d, %d", smax, n, int(wrong))
		}
	}
}

// P8.1: at all lengths and all sizes of frames, held against taking Room one by one.
func TestCount(t *testing.T) {
	counts := make([]int, 65516)
	for smax := 64; smax <= 1518; smax++ {
		room := eights(carried(smax))
		for long := range counts {
			counts[long] = 1
			if long > carried(smax) {
				counts[long] = counts[long-room] + 1
			}
			if n, wrong := Count(long, smax); n != counts[long] || wrong != api.OK {
				t.Fatalf("%d, %d: %d, %d; want %d", long, smax, n, int(wrong), counts[long])
			}
		}
	}
}

// P8.1: counts that are known, next to where they turn.
func TestCountKnown(t *testing.T) {
	for _, c := range [][3]int{
		{0, 64, 1}, {1, 64, 1}, {24, 64, 1}, {25, 64, 1}, {26, 64, 2}, {48, 64, 2}, {49, 64, 2}, {50, 64, 3}, {65515, 64, 2730},
		{31, 70, 1}, {32, 70, 2}, {55, 70, 2}, {56, 70, 3},
		{32, 71, 1}, {33, 71, 2}, {64, 71, 2}, {65, 71, 3},
		{1479, 1518, 1}, {1480, 1518, 2}, {2951, 1518, 2}, {2952, 1518, 3}, {8200, 1518, 6}, {65515, 1518, 45},
	} {
		wantCount(t, c[0], c[1], c[2], api.OK)
	}
}

// P8.1, R1: lengths and sizes that may not be; ErrArg is named ahead of ErrLong.
func TestCountRefuses(t *testing.T) {
	for _, smax := range append(odd(), 0, 63, 1519, 1520) {
		for _, long := range append(odd(), 0, 25, 65515, 65516) {
			wantCount(t, long, smax, 0, api.ErrArg)
		}
	}
	for _, smax := range []int{64, 65, 70, 71, 1000, 1517, 1518} {
		for _, long := range append(odd(), 65516, 65517, 65535, 65536) {
			code := api.ErrLong
			if long < 0 {
				code = api.ErrArg
			}
			wantCount(t, long, smax, 0, code)
		}
	}
}

// P8.2: parts that are known, field by field.
func TestSplitKnown(t *testing.T) {
	src, dst := addr.IP{10, 0, 7, 2}, addr.IP{224, 224, 1, 2}
	a, b := strings.Repeat("abcdefgh", 3), strings.Repeat("ijklmnop", 3)
	part := ipv4.Packet{ID: 9, TTL: 3, Proto: 17, Src: src, Dst: dst}
	with := func(more bool, off int, data string) ipv4.Packet {
		p := part
		p.More, p.Off, p.Data = more, off, data
		return p
	}
	for data, want := range map[string][]ipv4.Packet{
		"":             {with(false, 0, "")},
		"x":            {with(false, 0, "x")},
		a:              {with(false, 0, a)},
		a + "q":        {with(false, 0, a+"q")},
		a + "qr":       {with(true, 0, a), with(false, 3, "qr")},
		a + b + "q":    {with(true, 0, a), with(false, 3, b+"q")},
		a + b + "qr":   {with(true, 0, a), with(true, 3, b), with(false, 6, "qr")},
		a + b + a:      {with(true, 0, a), with(true, 3, b), with(false, 6, a)},
		a + b + a + b:  {with(true, 0, a), with(true, 3, b), with(true, 6, a), with(false, 9, b)},
		a + "\xff\x00": {with(true, 0, a), with(false, 3, "\xff\x00")},
	} {
		if l := mustSplit(t, with(false, 0, data), 64); !slices.Equal(l, want) {
			t.Errorf("%q: %v; want %v", data, l, want)
		}
	}
}

// wantParts holds what Split makes to the chapter's words, and to what layers below take.
func wantParts(t *testing.T, p ipv4.Packet, smax int) {
	t.Helper()
	l := mustSplit(t, p, smax)
	room, most := eights(carried(smax)), carried(smax)
	if n, _ := Count(len(p.Data), smax); len(l) != n {
		t.Errorf("%d, %d: %d parts; want %d", len(p.Data), smax, len(l), n)
	}
	at := 0
	for i, part := range l {
		long := room
		if i == len(l)-1 {
			long = len(p.Data) - at
		}
		want := p
		want.More, want.Off, want.Data = i < len(l)-1, at/8, p.Data[at:at+long]
		if part != want || at%8 != 0 || long > most {
			t.Errorf("%d, %d, part %d: %v; want %v", len(p.Data), smax, i, brief(part), brief(want))
		}
		at += long
		wantFrame(t, part, smax)
	}
	// One part fewer has room for so many bytes at most.
	if len(l) > 1 && (len(l)-2)*room+most >= len(p.Data) {
		t.Errorf("%d, %d: %d parts, and fewer would do", len(p.Data), smax, len(l))
	}
	wantPacket(t, l, p)
}

// wantFrame puts a part into a frame, and takes it out again.
func wantFrame(t *testing.T, part ipv4.Packet, smax int) {
	t.Helper()
	data, wrong := ipv4.Encode(part)
	if wrong != api.OK {
		t.Fatalf("%v: %d", brief(part), int(wrong))
	}
	s, wrong := ether.Encode(api.Frame{VL: 1, Data: data})
	if wrong != api.OK || len(s) > smax {
		t.Fatalf("%v: %d bytes, %d; want no more than %d", brief(part), len(s), int(wrong), smax)
	}
	f, wrong := ether.Decode(s)
	if wrong != api.OK {
		t.Fatal(int(wrong))
	}
	if p, wrong := ipv4.Decode(f.Data); p != part || wrong != api.OK {
		t.Errorf("%v, %d; want %v", brief(p), int(wrong), brief(part))
	}
}

// P8.2, P8.4: at all sizes of frames, at lengths next to where the count turns.
func TestSplitAtAllSizes(t *testing.T) {
	x := noise(1)
	for smax := 64; smax <= 1518; smax++ {
		room, most := eights(carried(smax)), carried(smax)
		for _, long := range []int{0, most, most + 1, room + most, room + most + 1, 3*room + x.next()%room} {
			wantParts(t, x.packet(long), smax)
		}
	}
}

// P8.2, P8.4: at lengths one behind the other, of the smallest frames and a few others.
func TestSplitAtLengths(t *testing.T) {
	x := noise(2)
	for _, smax := range []int{64, 65, 70, 71, 72, 100} {
		for long := range 200 {
			wantParts(t, x.packet(long), smax)
			wantParts(t, ipv4.Packet{Data: strings.Repeat("\x00", long)}, smax)
		}
	}
}

// P8.2, P8.4: the most bytes that a packet has, and few less.
func TestSplitMost(t *testing.T) {
	x := noise(3)
	for _, smax := range []int{64, 70, 71, 500, 1511, 1517, 1518} {
		for _, long := range []int{65515, 65514, 65512, 65511, 65505, 65504} {
			wantParts(t, x.packet(long), smax)
		}
	}
}

// P8.2: what all parts have is carried as it is, numbers that no packet has among them.
func TestSplitOfAnyNumbers(t *testing.T) {
	for _, n := range append(odd(), 0, 255, 256, 65535, 65536) {
		for _, p := range []ipv4.Packet{{ID: n}, {TTL: n}, {Proto: n}, {ID: n, TTL: n, Proto: n}} {
			p.Data = strings.Repeat("d", 60)
			l := mustSplit(t, p, 64)
			for _, part := range l {
				if part.ID != p.ID || part.TTL != p.TTL || part.Proto != p.Proto {
					t.Errorf("%v: %v", brief(p), brief(part))
				}
			}
			wantPacket(t, l, p)
		}
	}
}

// P8.2, R1: of several errors, the one that is named first.
func TestSplitRefuses(t *testing.T) {
	x := noise(4)
	for _, long := range []int{0, 25, 26, 65515, 65516, 65517, 1 << 20} {
		p := x.packet(long)
		for _, smax := range append(odd(), 0, 1, 63, 1519, 1520) {
			for _, off := range []int{0, 1} {
				q, r := p, p
				q.Off, r.Off, r.More = off, off, true
				wantNoParts(t, q, smax, api.ErrArg)
				wantNoParts(t, r, smax, api.ErrArg)
			}
		}
		for _, smax := range []int{64, 65, 71, 1000, 1518} {
			for _, off := range append(odd(), 1, 2, 8, 8191, 8192, 1<<61) {
				q, r := p, p
				q.Off, r.Off, r.More = off, off, true
				wantNoParts(t, q, smax, api.ErrField)
				wantNoParts(t, r, smax, api.ErrField)
			}
			q := p
			q.More = true
			wantNoParts(t, q, smax, api.ErrField)
			if long > 65515 {
				wantNoParts(t, p, smax, api.ErrLong)
			} else {
				mustSplit(t, p, smax)
			}
		}
	}
}

// P8.3: parts that are known, and need not be as long as Split makes them.
func TestJoinKnown(t *testing.T) {
	src, dst := addr.IP{10, 0, 7, 2}, addr.IP{224, 224, 1, 2}
	part := func(more bool, off int, data string) ipv4.Packet {
		return ipv4.Packet{ID: 9, More: more, Off: off, TTL: 3, Proto: 17, Src: src, Dst: dst, Data: data}
	}
	const eight = "abcdefgh"
	for _, c := range []struct {
		l    []ipv4.Packet
		want string
	}{
		{[]ipv4.Packet{part(false, 0, "")}, ""},
		{[]ipv4.Packet{part(false, 0, "x")}, "x"},
		{[]ipv4.Packet{part(false, 0, eight)}, eight},
		{[]ipv4.Packet{part(true, 0, eight), part(false, 1, "")}, eight},
		{[]ipv4.Packet{part(true, 0, eight), part(false, 1, "x")}, eight + "x"},
		{[]ipv4.Packet{part(true, 0, eight), part(true, 1, eight+eight), part(false, 3, "x")}, eight + eight + eight + "x"},
		{[]ipv4.Packet{part(true, 0, eight+eight), part(true, 2, "ABCDEFGH"), part(false, 3, eight)}, eight + eight + "ABCDEFGH" + eight},
	} {
		wantPacket(t, c.l, part(false, 0, c.want))
	}
}

// P8.3, R1: none.
func TestJoinEmpty(t *testing.T) {
	x := noise(5)
	for _, l := range [][]ipv4.Packet{nil, {}, mustSplit(t, x.packet(100), 64)[:0]} {
		wantNoPacket(t, l, api.ErrEmpty)
	}
}

// others is a part as one of other packets, each with one thing that is another one.
func others(p ipv4.Packet) []ipv4.Packet {
	var l []ipv4.Packet
	for _, turn := range []int{1, -1, 65536, 1 << 32, math.MinInt} {
		a, b, c := p, p, p
		a.ID += turn
		b.TTL += turn
		c.Proto += turn
		l = append(l, a, b, c)
	}
	for at := range 4 {
		a, b := p, p
		a.Src[at] ^= 1
		b.Dst[at] ^= 128
		l = append(l, a, b)
	}
	a := p
	a.Src, a.Dst = p.Dst, p.Src
	return append(l, a)
}

// P8.3, R1: a part of another packet, whichever part it is; that is named ahead of all else that is wrong.
func TestJoinOthers(t *testing.T) {
	x := noise(6)
	l := mustSplit(t, x.packet(100), 64)
	for i := range l {
		for _, p := range others(l[i]) {
			c := slices.Clone(l)
			c[i] = p
			wantNoPacket(t, c, api.ErrField)
			wantNoPacket(t, slices.Concat(l, c), api.ErrField)
			wantNoPacket(t, slices.Concat(c[i:], c[:i]), api.ErrField)
			wantNoPacket(t, []ipv4.Packet{l[0], p, l[0]}, api.ErrField)
			long := p
			long.Off, long.Data = -1, strings.Repeat("d", 65517)
			wantNoPacket(t, []ipv4.Packet{l[i], long}, api.ErrField)
			wantNoPacket(t, []ipv4.Packet{long, l[i]}, api.ErrField)
		}
	}
}

// P8.3, R1: an Off that is not an eighth of what is ahead, one whose bytes run over to that among them.
func TestJoinOffs(t *testing.T) {
	x := noise(7)
	l := mustSplit(t, x.packet(100), 64)
	for i := range l {
		for _, turn := range []int{1, -1, 3, -3, 8, 8192, 1 << 29, 1 << 32, 1 << 61, -1 << 61, 3 << 61, math.MinInt} {
			c := slices.Clone(l)
			c[i].Off += turn
			wantNoPacket(t, c, api.ErrOrder)
			wantNoPacket(t, c[:i+1], api.ErrOrder)
			// Off is named ahead of what is wrong with Data.
			c[i].Data = "x"
			wantNoPacket(t, c, api.ErrOrder)
		}
	}
}

// P8.3, R1: parts that are missing, come twice or in another order.
func TestJoinOrder(t *testing.T) {
	x := noise(8)
	l := mustSplit(t, x.packet(100), 64)
	for i := range l {
		missing := slices.Delete(slices.Clone(l), i, i+1)
		if i == len(l)-1 {
			wantNoPacket(t, missing, api.ErrShort)
		} else {
			wantNoPacket(t, missing, api.ErrOrder)
		}
		wantNoPacket(t, slices.Insert(slices.Clone(l), i, l[i]), api.ErrOrder)
		for j := range i {
			c := slices.Clone(l)
			c[i], c[j] = c[j], c[i]
			wantNoPacket(t, c, api.ErrOrder)
		}
		if i > 0 {
			wantNoPacket(t, l[i:], api.ErrOrder)
			wantNoPacket(t, l[:i], api.ErrShort)
		}
	}
}

// P8.3, R1: lengths that only the last part has.
func TestJoinLengths(t *testing.T) {
	x := noise(9)
	for long := range 100 {
		data := x.text(long)
		first, behind := ipv4.Packet{More: true, Data: data}, ipv4.Packet{Off: long / 8, Data: "x"}
		if long > 0 && long%8 == 0 {
			wantPacket(t, []ipv4.Packet{first, behind}, ipv4.Packet{Data: data + "x"})
			wantNoPacket(t, []ipv4.Packet{first}, api.ErrShort)
			continue
		}
		// Named ahead of ErrShort, and of what is wrong with the next one.
		wantNoPacket(t, []ipv4.Packet{first}, api.ErrField)
		wantNoPacket(t, []ipv4.Packet{first, behind}, api.ErrField)
		behind.Off = -1
		wantNoPacket(t, []ipv4.Packet{first, behind}, api.ErrField)
		wantNoPacket(t, []ipv4.Packet{{More: true, Data: "abcdefgh"}, {More: true, Off: 1, Data: data}, {Off: 1 + long/8}}, api.ErrField)
	}
}

// P8.3, R1: a last part that is not the last one.
func TestJoinBehindLast(t *testing.T) {
	for _, data := range []string{"", "x", "abcdefgh"} {
		p := ipv4.Packet{Data: data}
		wantPacket(t, []ipv4.Packet{p}, p)
		for _, behind := range []ipv4.Packet{{}, {Off: 1}, {More: true, Off: 1, Data: "abcdefgh"}, {More: true, Data: "x"}} {
			wantNoPacket(t, []ipv4.Packet{p, behind}, api.ErrOrder)
			wantNoPacket(t, []ipv4.Packet{{More: true, Data: "abcdefgh"}, {Off: 1, Data: data}, behind}, api.ErrOrder)
		}
	}
}

// row is parts of 8 bytes, so many, and a last one with so many bytes.
func row(parts, last int) []ipv4.Packet {
	var l []ipv4.Packet
	for i := range parts {
		l = append(l, ipv4.Packet{More: true, Off: i, Data: "abcdefgh"})
	}
	return append(l, ipv4.Packet{Off: parts, Data: strings.Repeat("z", last)})
}

// P8.3, R1: more bytes than a packet has, the last one to be named.
func TestJoinLong(t *testing.T) {
	for _, long := range []int{65515, 65516, 65517, 65520, 65535, 65536, 1 << 20} {
		for _, parts := range []int{0, 1, 2, 8188, 8189} {
			l := row(parts, long-8*parts)
			if long == 65515 {
				wantPacket(t, l, ipv4.Packet{Data: strings.Repeat("abcdefgh", parts) + strings.Repeat("z", long-8*parts)})
				continue
			}
			wantNoPacket(t, l, api.ErrLong)
		}
	}
	wantNoPacket(t, row(8190, 0), api.ErrLong)
	wantNoPacket(t, row(20000, 3), api.ErrLong)
	l := row(20000, 8)
	wantNoPacket(t, l[:20000], api.ErrShort)
	l[19999].Off = 0
	wantNoPacket(t, l, api.ErrOrder)
	wantNoPacket(t, []ipv4.Packet{{More: true, Data: strings.Repeat("d", 65519)}}, api.ErrField)
	wantNoPacket(t, []ipv4.Packet{{More: true, Data: strings.Repeat("d", 65520)}}, api.ErrShort)
}

// P8.3, R1: parts that share their bytes, and come to far more than there are.
func TestJoinShared(t *testing.T) {
	data := strings.Repeat("d", 1<<24)
	var l []ipv4.Packet
	for i := range 2000 {
		l = append(l, ipv4.Packet{More: true, Off: i << 21, Data: data})
	}
	wantNoPacket(t, l, api.ErrShort)
	l[1999].More = false
	wantNoPacket(t, l, api.ErrLong)
}

// alike tells whether two have the same things that all parts have.
func alike(p, q ipv4.Packet) bool {
	return p.ID == q.ID && p.TTL == q.TTL && p.Proto == q.Proto && p.Src == q.Src && p.Dst == q.Dst
}

// joined is what the chapter's words say of packets as parts.
func joined(l []ipv4.Packet) (ipv4.Packet, api.Errno) {
	if len(l) == 0 {
		return ipv4.Packet{}, api.ErrEmpty
	}
	for _, p := range l {
		for _, q := range l {
			if !alike(p, q) {
				return ipv4.Packet{}, api.ErrField
			}
		}
	}
	all := ""
	for i, p := range l {
		if float64(p.Off) != float64(len(all))/8 {
			return ipv4.Packet{}, api.ErrOrder
		}
		if p.More && (len(p.Data) == 0 || len(p.Data)%8 != 0) {
			return ipv4.Packet{}, api.ErrField
		}
		if !p.More && i < len(l)-1 {
			return ipv4.Packet{}, api.ErrOrder
		}
		all += p.Data
	}
	if l[len(l)-1].More {
		return ipv4.Packet{}, api.ErrShort
	}
	if len(all) > 65515 {
		return ipv4.Packet{}, api.ErrLong
	}
	p := l[0]
	return ipv4.Packet{ID: p.ID, TTL: p.TTL, Proto: p.Proto, Src: p.Src, Dst: p.Dst, Data: all}, api.OK
}

// nearParts is a packet's parts, or nearly so.
func (x *noise) nearParts() []ipv4.Packet {
	unit := x.among(8, 8, 16, 24)
	if x.next()%8 == 0 {
		unit = 65504
	}
	p := x.packet(0)
	var l []ipv4.Packet
	parts := x.next() % 5
	for i := range parts {
		p.More, p.Off, p.Data = true, i*unit/8, strings.Repeat("abcdefgh", unit/8)
		l = append(l, p)
	}
	p.More, p.Off, p.Data = false, parts*unit/8, x.text(x.among(0, 1, 8, 11, 12, 30))
	l = append(l, p)
	for range x.among(0, 0, 1, 1, 2) {
		x.turn(&l[x.next()%len(l)])
	}
	return l[:x.among(len(l), len(l), len(l), len(l), len(l), len(l)-1, 0)]
}

// turn changes one thing of a part.
func (x *noise) turn(p *ipv4.Packet) {
	switch x.next() % 9 {
	case 0:
		p.ID ^= 1
	case 1:
		p.Src[x.next()%4] ^= 1
	case 2:
		p.Off += x.among(1, -1, 1<<13)
	case 3:
		p.Data += x.text(x.among(1, 7, 8))
	case 4:
		p.Data = ""
	case 5, 6:
		p.More = !p.More
	case 7:
		p.TTL ^= 2
	case 8:
		p.Data = p.Data[:len(p.Data)/2]
	}
}

// P8.3, R1: of whatever parts, the error is the one that the chapter names first.
func TestJoinNearly(t *testing.T) {
	x := noise(10)
	times := map[api.Errno]int{}
	for range 30000 {
		l := x.nearParts()
		want, code := joined(l)
		times[code]++
		if p, wrong := Join(l); p != want || wrong != code {
			t.Errorf("%v: %v, %d; want %v, %d", briefs(l), brief(p), int(wrong), brief(want), int(code))
		}
	}
	for _, e := range []api.Errno{api.OK, api.ErrEmpty, api.ErrField, api.ErrOrder, api.ErrShort, api.ErrLong} {
		if times[e] < 500 {
			t.Error("few of", int(e), times[e])
		}
	}
}

// R2: what is handed in is not written into, nor what stands behind its length; what is answered is the caller's.
func TestMemory(t *testing.T) {
	x := noise(11)
	p := x.packet(100)
	l := mustSplit(t, p, 64)
	kept := slices.Clone(l)
	for i := range len(l) + 1 {
		Join(l[:i])
		if !slices.Equal(l, kept) {
			t.Fatal(i, briefs(l))
		}
	}
	other := mustSplit(t, p, 64)
	clear(l[:cap(l)])
	if !slices.Equal(other, kept) || !slices.Equal(mustSplit(t, p, 64), kept) {
		t.Error(briefs(other))
	}
	wantPacket(t, other, p)
}

// R3: a call knows nothing of those ahead of it, errors among them.
func TestCallsAlone(t *testing.T) {
	x := noise(12)
	p := x.packet(100)
	l := mustSplit(t, p, 64)
	for range 3 {
		wantCount(t, -1, 64, 0, api.ErrArg)
		wantNoParts(t, p, 63, api.ErrArg)
		wantNoParts(t, l[0], 64, api.ErrField)
		wantNoPacket(t, l[1:], api.ErrOrder)
		wantNoPacket(t, l[:1], api.ErrShort)
		wantNoPacket(t, nil, api.ErrEmpty)
		wantCount(t, 100, 64, 5, api.OK)
		if again := mustSplit(t, p, 64); !slices.Equal(again, l) {
			t.Errorf("%v; then %v", briefs(l), briefs(again))
		}
		wantPacket(t, l, p)
		wantParts(t, x.packet(x.next()%3000), 64+x.next()%1455)
	}
}

// leaves tells whether a loop is left by a goto: to a label that stands outside of it.
func leaves(loop ast.Node) bool {
	inside, to := map[string]bool{}, []string{}
	ast.Inspect(loop, func(n ast.Node) bool {
		switch x := n.(type) {
		case *ast.LabeledStmt:
			inside[x.Label.Name] = true
		case *ast.BranchStmt:
			if x.Tok == token.GOTO {
				to = append(to, x.Label.Name)
			}
		}
		return true
	})
	return slices.ContainsFunc(to, func(name string) bool { return !inside[name] })
}

// The way of the layer: parts are made by a loop that is left by goto.
func TestWays(t *testing.T) {
	file, err := parser.ParseFile(token.NewFileSet(), "frag.go", nil, 0)
	if err != nil {
		t.Fatal(err)
	}
	left := 0
	ast.Inspect(file, func(n ast.Node) bool {
		switch n.(type) {
		case *ast.ForStmt, *ast.RangeStmt:
			if leaves(n) {
				left++
			}
		}
		return true
	})
	if left == 0 {
		t.Error("no loop is left by goto")
	}
}
