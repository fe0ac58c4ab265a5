package ipv4

import (
	"encoding/hex"
	"go/ast"
	"go/parser"
	"go/token"
	"math"
	"strings"
	"testing"

	"pitot/addr"
	"pitot/api"
)

// noise is numbers that look like none, the same ones each time.
type noise uint64

func (x *noise) next() int {
	*x = *x*6364136223846793005 + 1442695040888963407
	return int(*x >> 33)
}

// among is one of few numbers.
func (x *noise) among(l ...int) int { return l[x.next()%len(l)] }

func (x *noise) text(n int) string {
	b := make([]byte, n)
	for i := range b {
		b[i] = byte(x.next())
	}
	return string(b)
}

func (x *noise) ip() addr.IP { return addr.IP([]byte(x.text(4))) }

// packet is one that may be, with so many bytes of Data.
func (x *noise) packet(long int) Packet {
	return Packet{ID: x.next() % 65536, More: x.next()%2 == 1, Off: x.next() % 8192, TTL: x.next() % 256, Proto: x.next() % 256, Src: x.ip(), Dst: x.ip(), Data: x.text(long)}
}

func zeros(n int) string { return strings.Repeat("\x00", n) }

func pair(n int) string { return string([]byte{byte(n / 256), byte(n % 256)}) }

// sumOf is the sum that belongs to twenty bytes, whichever they hold.
func sumOf(s string) int {
	sum := 0
	for i := 0; i < 20; i += 2 {
		if i != 10 {
			sum += int(s[i])*256 + int(s[i+1])
		}
	}
	// Taking what runs over in again is reckoning by 65535, where 65535 itself stands for 0.
	if sum > 0 {
		sum = (sum-1)%65535 + 1
	}
	return 65535 - sum
}

// summed is bytes with the sum that belongs to the first twenty of them.
func summed(s string) string { return s[:10] + pair(sumOf(s)) + s[12:] }

// turned is a packet's bytes with others at a place, and the sum that belongs to them.
func turned(s string, at int, other string) string {
	return summed(s[:at] + other + s[at+len(other):])
}

// plain is a packet's bytes, as the chapter's words go.
func plain(p Packet) string {
	place := p.Off
	if p.More {
		place += 8192
	}
	s := "\x45\x00" + pair(20+len(p.Data)) + pair(p.ID) + pair(place)
	s += string([]byte{byte(p.TTL), byte(p.Proto), 0, 0})
	s += string(p.Src[:]) + string(p.Dst[:])
	return summed(s) + p.Data
}

// judged is what the chapter's words say of bytes.
func judged(s string) api.Errno {
	if len(s) < 20 {
		return api.ErrShort
	}
	all := int(s[2])*256 + int(s[3])
	switch {
	case s[0] != 0x45:
		return api.ErrKind
	case s[1] != 0, all < 20, s[6] >= 64:
		return api.ErrField
	case s[10:12] != pair(sumOf(s)):
		return api.ErrSum
	case len(s) < all:
		return api.ErrShort
	}
	return api.OK
}

// brief is a packet, told without all of its Data.
func brief(p Packet) []any {
	return []any{p.ID, p.More, p.Off, p.TTL, p.Proto, p.Src, p.Dst, len(p.Data), front(p.Data)}
}

// front is what is told of bytes.
func front(s string) string { return hex.EncodeToString([]byte(s[:min(len(s), 40)])) }

func mustEncode(t *testing.T, p Packet) string {
	t.Helper()
	s, e := Encode(p)
	if e != api.OK {
		t.Fatalf("%v: %d", brief(p), int(e))
	}
	return s
}

func wantNoBytes(t *testing.T, p Packet, code api.Errno) {
	t.Helper()
	if s, e := Encode(p); s != "" || e != code {
		t.Errorf("%v: %s, %d; want %d", brief(p), front(s), int(e), int(code))
	}
}

func wantPacket(t *testing.T, s string, want Packet) {
	t.Helper()
	if p, e := Decode(s); p != want || e != api.OK {
		t.Errorf("%s: %v, %d; want %v", front(s), brief(p), int(e), brief(want))
	}
}

func wantNoPacket(t *testing.T, s string, code api.Errno) {
	t.Helper()
	if p, e := Decode(s); p != (Packet{}) || e != code {
		t.Errorf("%d bytes, %s: %v, %d; want %d", len(s), front(s), brief(p), int(e), int(code))
	}
}

// wantBoth holds a packet against its bytes, both ways.
func wantBoth(t *testing.T, p Packet) {
	t.Helper()
	s := mustEncode(t, p)
	if s != plain(p) {
		t.Errorf("%v: %d bytes, %s", brief(p), len(s), front(s))
	}
	wantPacket(t, s, p)
}

// known is packets and their bytes, the sums reckoned by hand.
func known() map[string]Packet {
	all := addr.IP{255, 255, 255, 255}
	part, group := addr.IP{10, 0, 7, 2}, addr.IP{224, 224, 1, 2}
	return map[string]Packet{
		"45000014" + "00000000" + "0000baeb" + "00000000" + "00000000":                {},
		"45000014" + "ffff3fff" + "ffff7aec" + "ffffffff" + "ffffffff":                {ID: 65535, More: true, Off: 8191, TTL: 255, Proto: 255, Src: all, Dst: all},
		"45000014" + "00000000" + "0111c6f5" + "0a000702" + "e0e00102":                {TTL: 1, Proto: 17, Src: part, Dst: group},
		"45000017" + "00010000" + "0111c6f1" + "0a000702" + "e0e00102" + "616263":     {ID: 1, TTL: 1, Proto: 17, Src: part, Dst: group, Data: "abc"},
		"45000019" + "12342abc" + "401151fb" + "0a000102" + "e0e00007" + "68656c6c6f": {ID: 0x1234, More: true, Off: 0x0abc, TTL: 64, Proto: 17, Src: addr.IP{10, 0, 1, 2}, Dst: addr.IP{224, 224, 0, 7}, Data: "hello"},
		// The sum 0: all others come to FFFF.
		"45000014" + "baeb0000" + "00000000" + "00000000" + "00000000": {ID: 0xbaeb},
	}
}

// P5.1, P5.2: bytes that are known, both ways.
func TestKnown(t *testing.T) {
	for text, p := range known() {
		if s, e := Encode(p); hex.EncodeToString([]byte(s)) != text || e != api.OK {
			t.Errorf("%v: %x, %d; want %s", brief(p), s, int(e), text)
		}
		b, err := hex.DecodeString(text)
		if err != nil {
			t.Fatal(err)
		}
		wantPacket(t, string(b), p)
	}
	if Most != 65515 {
		t.Error(Most)
	}
}

// P5.1, P5.2: at all numbers of each field.
func TestAllNumbers(t *testing.T) {
	x := noise(1)
	p := x.packet(3)
	for n := range 65536 {
		q := p
		q.ID = n
		wantBoth(t, q)
	}
	for n := range 8192 {
		q := p
		for _, more := range []bool{false, true} {
			q.Off, q.More = n, more
			wantBoth(t, q)
		}
	}
	for n := range 256 {
		q, r := p, p
		q.TTL, r.Proto = n, n
		wantBoth(t, q)
		wantBoth(t, r)
	}
	for at := range 4 {
		for n := range 256 {
			q, r := p, p
			q.Src[at], r.Dst[at] = byte(n), byte(n)
			wantBoth(t, q)
			wantBoth(t, r)
		}
	}
}

// P5.1, P5.2: at lengths of Data up to the greatest one; what is carried is bytes, whatever signs they make.
func TestLengths(t *testing.T) {
	x := noise(2)
	for long := range 2000 {
		wantBoth(t, x.packet(long))
	}
	for _, long := range []int{8191, 8192, 32747, 32748, 65279, 65280, 65515 - 8, 65513, 65514, 65515} {
		p := x.packet(long)
		wantBoth(t, p)
		p.Data = zeros(long)
		wantBoth(t, p)
		p.Data = strings.Repeat("\xff", long)
		wantBoth(t, p)
	}
	wantBoth(t, Packet{Data: "é漢\xff\xfe\x00\xed\xa0\x80"})
	if s := mustEncode(t, Packet{}); len(s) != 20 {
		t.Error(len(s))
	}
}

// P5.1, R1: numbers that a field does not have; of two faults ErrArg is named first.
func TestEncodeRefusesNumbers(t *testing.T) {
	x := noise(3)
	for _, c := range []struct {
		most int
		put  func(p *Packet, n int)
	}{
		{65535, func(p *Packet, n int) { p.ID = n }},
		{8191, func(p *Packet, n int) { p.Off = n }},
		{255, func(p *Packet, n int) { p.TTL = n }},
		{255, func(p *Packet, n int) { p.Proto = n }},
	} {
		most, put := c.most, c.put
		for _, n := range []int{-1, -2, -most, -most - 1, most + 1, most + 2, 2*most + 1, 2*most + 2, 65536, 65537, 1 << 31, 1 << 32, 1<<32 + 1, -1 << 32, math.MaxInt, math.MinInt, math.MinInt + 1} {
			for _, p := range []Packet{{}, x.packet(10)} {
				put(&p, n)
				wantNoBytes(t, p, api.ErrArg)
				p.Data = zeros(65516)
				wantNoBytes(t, p, api.ErrArg)
			}
		}
		p := x.packet(10)
		put(&p, 0)
		wantBoth(t, p)
		put(&p, most)
		wantBoth(t, p)
	}
	wantNoBytes(t, Packet{ID: -1, Off: 8192, TTL: 256, Proto: -1, Data: zeros(70000)}, api.ErrArg)
}

// P5.1, R1: too many bytes of Data.
func TestEncodeLong(t *testing.T) {
	x := noise(4)
	for _, long := range []int{65516, 65517, 65535, 65536, 65536 + 20, 131072, 1 << 20} {
		wantNoBytes(t, Packet{Data: zeros(long)}, api.ErrLong)
		p := x.packet(0)
		p.Data = strings.Repeat("x", long)
		wantNoBytes(t, p, api.ErrLong)
	}
}

// P5.2, P5.3: what is behind a packet does not count.
func TestDecodeBehind(t *testing.T) {
	x := noise(5)
	for _, long := range []int{0, 1, 2, 25, 26, 1479, 65515} {
		p := x.packet(long)
		s := mustEncode(t, p)
		for _, behind := range []string{"\x00", zeros(26), "padding", s, x.text(70000)} {
			wantPacket(t, s+behind, p)
		}
	}
	// Fewer bytes in all than there are: the others are behind.
	s := mustEncode(t, Packet{ID: 7, Data: "hello"})
	for n := range 6 {
		wantPacket(t, turned(s, 2, pair(20+n)), Packet{ID: 7, Data: "hello"[:n]})
	}
}

// P5.2, R1: fewer than twenty bytes, whatever they are.
func TestDecodeShort(t *testing.T) {
	x := noise(6)
	whole := mustEncode(t, x.packet(0))
	for long := range 20 {
		for _, s := range []string{whole[:long], zeros(long), strings.Repeat("\xff", long), strings.Repeat("\x45", long), x.text(long)} {
			wantNoPacket(t, s, api.ErrShort)
		}
	}
	wantNoPacket(t, zeros(20), api.ErrKind)
}

// P5.2, R1: all first bytes but 45 are refused, ahead of whatever else is wrong.
func TestDecodeKind(t *testing.T) {
	s := mustEncode(t, Packet{ID: 7, TTL: 1, Data: "hello"})
	for b := range 256 {
		first := string([]byte{byte(b)})
		if b == 0x45 {
			wantPacket(t, turned(s, 0, first), Packet{ID: 7, TTL: 1, Data: "hello"})
			continue
		}
		for _, other := range []string{
			turned(s, 0, first),
			first + s[1:],
			turned(s, 0, first+"\x01"),
			turned(s, 0, first+"\x00\x00\x13"),
			turned(s, 0, first+"\x00\xff\xff"),
			turned(s, 0, first)[:20],
			first + strings.Repeat("\xff", 19),
		} {
			wantNoPacket(t, other, api.ErrKind)
		}
	}
}

// P5.2, R1: a second byte that is not 0, too few bytes in all, and bits ahead of More; all ahead of the sum, and of bytes that are missing.
func TestDecodeField(t *testing.T) {
	p := Packet{ID: 7, More: true, Off: 5, TTL: 1, Data: "hello"}
	s := mustEncode(t, p)
	var heads []string
	for b := 1; b < 256; b++ {
		heads = append(heads, turned(s, 1, string([]byte{byte(b)})))
	}
	for n := range 20 {
		heads = append(heads, turned(s, 2, pair(n)))
	}
	for b := 64; b < 256; b++ {
		heads = append(heads, turned(s, 6, string([]byte{byte(b)})))
	}
	for _, h := range heads {
		wantNoPacket(t, h, api.ErrField)
		wantNoPacket(t, h[:20], api.ErrField)
		wantNoPacket(t, h+"behind", api.ErrField)
		wantNoPacket(t, h[:10]+pair(sumOf(h)^1)+h[12:], api.ErrField)
	}
	for b := range 64 {
		q := p
		q.More, q.Off = b >= 32, b%32*256+5
		wantPacket(t, turned(s, 6, string([]byte{byte(b)})), q)
	}
}

// P5.2, R1: all sums but one are refused, FFFF in the place of 0 too; ahead of bytes that are missing.
func TestDecodeSum(t *testing.T) {
	x := noise(7)
	for _, p := range []Packet{{}, {ID: 0xbaeb}, {ID: 0xbaea}, {ID: 0xbaec}, x.packet(0), x.packet(5)} {
		s := mustEncode(t, p)
		right := sumOf(s)
		for n := range 65536 {
			other := s[:10] + pair(n) + s[12:]
			if n == right {
				wantPacket(t, other, p)
				continue
			}
			wantNoPacket(t, other, api.ErrSum)
		}
		cut := s[:10] + pair(right^1) + s[12:20]
		wantNoPacket(t, cut, api.ErrSum)
	}
	s := mustEncode(t, Packet{ID: 0xbaeb})
	if s[10:12] != "\x00\x00" {
		t.Errorf("%x", s)
	}
	wantNoPacket(t, s[:10]+"\xff\xff"+s[12:], api.ErrSum)
}

// P5.2: Data is not in the sum.
func TestDataIsNotSummed(t *testing.T) {
	x := noise(8)
	p := x.packet(50)
	s := mustEncode(t, p)
	for at := range 50 {
		b := []byte(p.Data)
		b[at] ^= byte(1 + x.next()%255)
		q := p
		q.Data = string(b)
		wantPacket(t, s[:20]+q.Data, q)
	}
}

// P5.2, R1: not so many bytes as there are to be.
func TestDecodeCut(t *testing.T) {
	x := noise(9)
	for _, long := range []int{1, 2, 44, 1479} {
		s := mustEncode(t, x.packet(long))
		for n := range len(s) {
			wantNoPacket(t, s[:n], api.ErrShort)
		}
	}
	p := x.packet(65515)
	s := mustEncode(t, p)
	for _, n := range []int{0, 19, 20, 21, 40, 32768, 65533, 65534} {
		wantNoPacket(t, s[:n], api.ErrShort)
	}
	wantPacket(t, s, p)
	head := mustEncode(t, Packet{ID: 7})
	for all := 21; all < 65536; all += 41 {
		wantNoPacket(t, turned(head, 2, pair(all)), api.ErrShort)
	}
}

// P5.3, T1: what was encoded is decoded, whatever is behind it.
func TestEncodedIsDecoded(t *testing.T) {
	x := noise(10)
	for range 5000 {
		p := x.packet(x.among(0, 1, 8, 24, x.next()%1500))
		s := mustEncode(t, p)
		wantPacket(t, s, p)
		wantPacket(t, s+x.text(x.next()%50), p)
		if q, _ := Decode(s); mustEncode(t, q) != s {
			t.Errorf("%v: %s", brief(p), front(s))
		}
	}
}

// nearPacket is bytes that are a packet's, or nearly so, mostly with the right sum.
func (x *noise) nearPacket() string {
	s := string([]byte{byte(x.among(0x45, 0x45, 0x45, 0x45, 0x45, 0x45, 0x46, 0x55, 0x54)), byte(x.among(0, 0, 0, 0, 0, 1, 255))})
	s += pair(x.among(20, 21, 40, 60, 60, 61, 19, 0, 65535)) + pair(x.next()%65536)
	s += pair(x.next()%8192|x.among(0, 0, 0, 0, 8192, 8192, 16384, 32768)) + x.text(12)
	switch x.next() % 5 {
	case 0:
		s = s[:10] + pair(x.among(0, 65535, sumOf(s)^256, sumOf(s)^1)) + s[12:]
	case 1:
	default:
		s = summed(s)
	}
	s += x.text(40)
	return s[:x.among(60, 60, 60, 60, 59, 40, 20, 19, x.next()%60)]
}

// P5.2, P5.3, T1: of whatever bytes, the error is the one that the chapter names first, and what is decoded is encoded as the same bytes.
func TestDecodedIsEncoded(t *testing.T) {
	x := noise(11)
	times := map[api.Errno]int{}
	for range 50000 {
		s := x.nearPacket()
		want := judged(s)
		times[want]++
		if want != api.OK {
			wantNoPacket(t, s, want)
			continue
		}
		p, e := Decode(s)
		if e != api.OK || plain(p) != s[:20+len(p.Data)] || mustEncode(t, p) != plain(p) {
			t.Errorf("%s: %v, %d", front(s), brief(p), int(e))
		}
	}
	for _, e := range []api.Errno{api.OK, api.ErrShort, api.ErrKind, api.ErrField, api.ErrSum} {
		if times[e] < 1000 {
			t.Error("few of", int(e), times[e])
		}
	}
}

// P5.2: a byte of the first twenty that is another one is told, whichever it is.
func TestOneOtherByte(t *testing.T) {
	x := noise(12)
	for _, p := range []Packet{{}, {ID: 0xbaeb}, x.packet(0), x.packet(30)} {
		s := mustEncode(t, p)
		for at := range 20 {
			for turn := 1; turn < 256; turn++ {
				b := []byte(s)
				b[at] ^= byte(turn)
				want := judged(string(b))
				if want == api.OK {
					t.Fatalf("%x", b)
				}
				wantNoPacket(t, string(b), want)
			}
		}
	}
}

// R3: a call knows nothing of those ahead of it, errors among them.
func TestCallsAlone(t *testing.T) {
	x := noise(13)
	p := x.packet(100)
	s := mustEncode(t, p)
	for range 3 {
		wantNoBytes(t, Packet{ID: 65536}, api.ErrArg)
		wantNoBytes(t, Packet{Data: zeros(65516)}, api.ErrLong)
		wantNoPacket(t, s[:19], api.ErrShort)
		wantNoPacket(t, s[1:], judged(s[1:]))
		wantNoPacket(t, s[:119], api.ErrShort)
		if again := mustEncode(t, p); again != s {
			t.Errorf("%x; then %x", s, again)
		}
		wantPacket(t, s, p)
		mustEncode(t, x.packet(x.next()%1500))
	}
}

// The ways of the layer: fields of bits are lists that are handed on as variadic ones, both ways, and structs are compared.
func TestWays(t *testing.T) {
	file, err := parser.ParseFile(token.NewFileSet(), "ipv4.go", nil, 0)
	if err != nil {
		t.Fatal(err)
	}
	written, read, compared := 0, 0, 0
	ast.Inspect(file, func(n ast.Node) bool {
		switch x := n.(type) {
		case *ast.CallExpr:
			f, ok := x.Fun.(*ast.SelectorExpr)
			if ok && f.Sel.Name == "Bits" && x.Ellipsis != token.NoPos {
				read++
			} else if ok && f.Sel.Name == "Bits" && len(x.Args) > 2 {
				written++
			}
		case *ast.BinaryExpr:
			if x.Op == token.EQL || x.Op == token.NEQ {
				if _, ok := ast.Unparen(x.Y).(*ast.CompositeLit); ok {
					compared++
				}
			}
		}
		return true
	})
	if written == 0 || read == 0 || compared == 0 {
		t.Error("lists written, read, structs compared:", written, read, compared)
	}
}
