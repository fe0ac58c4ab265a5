package udp

import (
	"encoding/hex"
	"go/ast"
	"go/parser"
	"go/token"
	"math"
	"strings"
	"testing"

	"pitot/addr"
	"pitot/api"
)

// noise is numbers that look like none, the same ones each time.
type noise uint64

func (x *noise) next() int {
	*x = *x*6364136223846793005 + 1442695040888963407
	return int(*x >> 33)
}

// among is one of few numbers.
func (x *noise) among(l ...int) int { return l[x.next()%len(l)] }

func (x *noise) text(n int) string {
	b := make([]byte, n)
	for i := range b {
		b[i] = byte(x.next())
	}
	return string(b)
}

func (x *noise) ip() addr.IP { return addr.IP([]byte(x.text(4))) }

// ends is some that may be.
func (x *noise) ends() Ends {
	return Ends{Src: x.ip(), Dst: x.ip(), From: x.next() % 65536, To: x.next() % 65536}
}

func zeros(n int) string { return strings.Repeat("\x00", n) }

func pair(n int) string { return string([]byte{byte(n / 256), byte(n % 256)}) }

// ownSum is the sum that belongs to a datagram's bytes, whichever sum they hold.
func ownSum(src, dst addr.IP, s string) int {
	all := string(src[:]) + string(dst[:]) + "\x00\x11" + s[4:6] + s[:6] + s[8:]
	if len(all)%2 == 1 {
		all += "\x00"
	}
	sum := 0
	for i := 0; i < len(all); i += 2 {
		sum += int(all[i])*256 + int(all[i+1])
	}
	// Taking what runs over in again is reckoning by 65535; the sum is never 0, as 00 11 is
	// in it, so that FFFF is left of what is a multiple, and turned about that is 0, told as FFFF.
	return 65535 - sum%65535
}

// withSum is a datagram's bytes with a sum of one's choice.
func withSum(s string, sum int) string { return s[:6] + pair(sum) + s[8:] }

// summed is bytes with the sum that belongs to them.
func summed(src, dst addr.IP, s string) string { return withSum(s, ownSum(src, dst, s)) }

// plain is a datagram's bytes, as the chapter's words go.
func plain(e Ends, data string) string {
	return summed(e.Src, e.Dst, pair(e.From)+pair(e.To)+pair(8+len(data))+"\x00\x00"+data)
}

// judged is what the chapter's words say of bytes.
func judged(src, dst addr.IP, s string) api.Errno {
	if len(s) < 8 {
		return api.ErrShort
	}
	all := int(s[4])*256 + int(s[5])
	switch {
	case all < 8, all > 8200:
		return api.ErrField
	case all > len(s):
		return api.ErrShort
	case all < len(s):
		return api.ErrLong
	case s[6:8] != "\x00\x00" && s[6:8] != pair(ownSum(src, dst, s)):
		return api.ErrSum
	}
	return api.OK
}

// front is what is told of bytes.
func front(s string) string { return hex.EncodeToString([]byte(s[:min(len(s), 40)])) }

func mustEncode(t *testing.T, e Ends, data string) string {
	t.Helper()
	s, wrong := Encode(e, data)
	if wrong != api.OK {
		t.Fatalf("%v, %d bytes: %d", e, len(data), int(wrong))
	}
	return s
}

func wantNoBytes(t *testing.T, e Ends, data string, code api.Errno) {
	t.Helper()
	if s, wrong := Encode(e, data); s != "" || wrong != code {
		t.Errorf("%v, %d bytes: %s, %d; want %d", e, len(data), front(s), int(wrong), int(code))
	}
}

// wantDatagram holds bytes to be those of a datagram between the addresses of its ends.
func wantDatagram(t *testing.T, s string, want Ends, data string) {
	t.Helper()
	if e, d, wrong := Decode(want.Src, want.Dst, s); e != want || d != data || wrong != api.OK {
		t.Errorf("%s: %v, %d bytes, %s, %d; want %v", front(s), e, len(d), front(d), int(wrong), want)
	}
}

func wantNoDatagram(t *testing.T, src, dst addr.IP, s string, code api.Errno) {
	t.Helper()
	if e, d, wrong := Decode(src, dst, s); e != (Ends{}) || d != "" || wrong != code {
		t.Errorf("%d bytes, %s: %v, %s, %d; want %d", len(s), front(s), e, front(d), int(wrong), int(code))
	}
}

// wantJudged holds bytes to what the chapter's words say of them.
func wantJudged(t *testing.T, src, dst addr.IP, s string) api.Errno {
	t.Helper()
	want := judged(src, dst, s)
	if want != api.OK {
		wantNoDatagram(t, src, dst, s, want)
		return want
	}
	e := Ends{Src: src, Dst: dst, From: int(s[0])*256 + int(s[1]), To: int(s[2])*256 + int(s[3])}
	wantDatagram(t, s, e, s[8:])
	return want
}

// wantBoth holds a datagram against its bytes, both ways.
func wantBoth(t *testing.T, e Ends, data string) {
	t.Helper()
	s := mustEncode(t, e, data)
	if s != plain(e, data) {
		t.Errorf("%v, %d bytes: %s", e, len(data), front(s))
	}
	wantDatagram(t, s, e, data)
}

// P6.1, P6.2: bytes that are known, both ways, the sums reckoned by hand.
func TestKnown(t *testing.T) {
	part, group, all := addr.IP{10, 0, 7, 2}, addr.IP{224, 224, 1, 2}, addr.IP{255, 255, 255, 255}
	for _, c := range []struct {
		text string
		e    Ends
		data string
	}{
		{"00000000" + "0008ffde", Ends{}, ""},
		{"ffffffff" + "0008ffde", Ends{Src: all, Dst: all, From: 65535, To: 65535}, ""},
		{"00010002" + "000aa489" + "6869", Ends{Src: part, Dst: group, From: 1, To: 2}, "hi"},
		{"12345678" + "000bbec6" + "616263", Ends{Src: addr.IP{10, 0, 0, 1}, Dst: addr.IP{10, 0, 0, 2}, From: 0x1234, To: 0x5678}, "abc"},
		// Sums that are 0, and are told as FFFF.
		{"00000000" + "000affff" + "ffda", Ends{}, "\xff\xda"},
		{"ffde0000" + "0008ffff", Ends{From: 0xffde}, ""},
		{"00000000" + "0008ffff", Ends{Dst: addr.IP{255, 222, 0, 0}}, ""},
		// And next to them.
		{"ffdd0000" + "00080001", Ends{From: 0xffdd}, ""},
		{"ffdf0000" + "0008fffe", Ends{From: 0xffdf}, ""},
	} {
		if s, wrong := Encode(c.e, c.data); hex.EncodeToString([]byte(s)) != c.text || wrong != api.OK {
			t.Errorf("%v: %x, %d; want %s", c.e, s, int(wrong), c.text)
		}
		b, err := hex.DecodeString(c.text)
		if err != nil {
			t.Fatal(err)
		}
		wantDatagram(t, string(b), c.e, c.data)
	}
	if Most != 8192 || len(mustEncode(t, Ends{}, "hi")) != 10 {
		t.Error(Most)
	}
}

// P6.1, P6.2: at all ports, and at all bytes of the addresses.
func TestAllNumbers(t *testing.T) {
	x := noise(1)
	e, data := x.ends(), x.text(3)
	for n := range 65536 {
		f, g := e, e
		f.From, g.To = n, n
		wantBoth(t, f, data)
		wantBoth(t, g, data)
	}
	for at := range 4 {
		for n := range 256 {
			f, g := e, e
			f.Src[at], g.Dst[at] = byte(n), byte(n)
			wantBoth(t, f, data)
			wantBoth(t, g, data)
		}
	}
}

// P6.1, P6.2: at lengths up to the greatest one, odd ones among them; what is carried is bytes, whatever signs they make.
func TestLengths(t *testing.T) {
	x := noise(2)
	for long := range 2000 {
		wantBoth(t, x.ends(), x.text(long))
	}
	for _, long := range []int{4095, 4096, 8183, 8184, 8185, 8190, 8191, 8192} {
		for _, data := range []string{x.text(long), zeros(long), strings.Repeat("\xff", long)} {
			wantBoth(t, x.ends(), data)
		}
	}
	wantBoth(t, Ends{}, "é漢\xff\xfe\x00\xed\xa0\x80")
}

// P6.1, R1: ports that there are not; of two faults ErrArg is named first.
func TestEncodeRefusesPorts(t *testing.T) {
	x := noise(3)
	for _, n := range []int{-1, -2, -65535, -65536, 65536, 65537, 131071, 131072, 1 << 31, 1 << 32, 1<<32 + 1, -1 << 32, math.MaxInt, math.MinInt, math.MinInt + 1} {
		for _, e := range []Ends{{}, x.ends()} {
			f, g := e, e
			f.From, g.To = n, n
			for _, data := range []string{"", "hi", zeros(8192), zeros(8193)} {
				wantNoBytes(t, f, data, api.ErrArg)
				wantNoBytes(t, g, data, api.ErrArg)
				wantNoBytes(t, Ends{From: n, To: n}, data, api.ErrArg)
			}
		}
	}
}

// P6.1, R1: too many bytes.
func TestEncodeLong(t *testing.T) {
	x := noise(4)
	for _, long := range []int{8193, 8194, 8200, 8201, 65527, 65528, 65535, 65536, 65538, 1 << 20} {
		wantNoBytes(t, Ends{}, zeros(long), api.ErrLong)
		wantNoBytes(t, x.ends(), strings.Repeat("x", long), api.ErrLong)
	}
}

// P6.1: no datagram is encoded with a sum 0, which would say that there is none.
func TestSumIsThere(t *testing.T) {
	x := noise(5)
	e := x.ends()
	ones := 0
	for n := range 65536 {
		s := mustEncode(t, e, pair(n))
		if s[6:8] == "\x00\x00" {
			t.Errorf("%s", front(s))
		}
		if s[6:8] == "\xff\xff" {
			ones++
		}
	}
	if ones != 1 && ones != 2 {
		t.Error(ones)
	}
}

// P6.2, R1: fewer than 8 bytes, whatever they are.
func TestDecodeShort(t *testing.T) {
	x := noise(6)
	e := x.ends()
	whole := mustEncode(t, e, "")
	for long := range 8 {
		for _, s := range []string{whole[:long], zeros(long), strings.Repeat("\xff", long), x.text(long)} {
			wantNoDatagram(t, e.Src, e.Dst, s, api.ErrShort)
		}
	}
	wantNoDatagram(t, e.Src, e.Dst, zeros(8), api.ErrField)
}

// P6.2, R1: each number of bytes that there are to be, of as many as there are, more and fewer; ahead of the sum, be it right or not.
func TestDecodeLengths(t *testing.T) {
	x := noise(7)
	e := x.ends()
	for _, long := range []int{0, 1, 2, 15, 8191, 8192, 8193, 9000} {
		text := pair(e.From) + pair(e.To) + "\x00\x00\x00\x00" + x.text(long)
		for all := range 65536 {
			// Between the edges a few numbers do, where there are many bytes to build.
			if long > 100 && all > 20 && (all < 8190 || all > 8210) && all%61 != 0 {
				continue
			}
			s := text[:4] + pair(all) + text[6:]
			want := api.ErrField
			switch {
			case all < 8 || all > 8200:
			case all > 8+long:
				want = api.ErrShort
			case all < 8+long:
				want = api.ErrLong
			default:
				wantDatagram(t, s, e, s[8:])
				wantDatagram(t, summed(e.Src, e.Dst, s), e, s[8:])
				wantNoDatagram(t, e.Src, e.Dst, withSum(s, ownSum(e.Src, e.Dst, s)^1|2), api.ErrSum)
				continue
			}
			wantNoDatagram(t, e.Src, e.Dst, s, want)
			wantNoDatagram(t, e.Src, e.Dst, withSum(s, 1+all%65535), want)
		}
	}
	for _, all := range []int{0, 7, 8, 10, 8200, 8201, 65535} {
		s := pair(e.From) + pair(e.To) + pair(all) + "\x00\x00" + zeros(70000)
		wantJudged(t, e.Src, e.Dst, s)
		wantJudged(t, e.Src, e.Dst, summed(e.Src, e.Dst, s))
	}
}

// P6.2: a datagram that is cut, or that has bytes behind it.
func TestDecodeCut(t *testing.T) {
	x := noise(8)
	for _, long := range []int{1, 2, 44, 1479, 8192} {
		e := x.ends()
		s := mustEncode(t, e, x.text(long))
		for n := range len(s) {
			wantNoDatagram(t, e.Src, e.Dst, s[:n], api.ErrShort)
		}
		for _, behind := range []string{"\x00", "\x00\x00", "x", zeros(70000), s} {
			wantNoDatagram(t, e.Src, e.Dst, s+behind, api.ErrLong)
			wantNoDatagram(t, e.Src, e.Dst, withSum(s, 0)+behind, api.ErrLong)
		}
	}
}

// P6.2, R1: all sums but one, and but 0, are refused.
func TestDecodeSum(t *testing.T) {
	x := noise(9)
	for _, c := range []struct {
		e    Ends
		data string
	}{{Ends{}, ""}, {Ends{}, "\xff\xda"}, {Ends{}, "\xff\xd9"}, {Ends{}, "\xff\xdb"}, {x.ends(), ""}, {x.ends(), x.text(5)}} {
		s := mustEncode(t, c.e, c.data)
		right := ownSum(c.e.Src, c.e.Dst, s)
		for n := range 65536 {
			if n == 0 || n == right {
				wantDatagram(t, withSum(s, n), c.e, c.data)
				continue
			}
			wantNoDatagram(t, c.e.Src, c.e.Dst, withSum(s, n), api.ErrSum)
		}
	}
}

// P6.2, P6.3: the sum is of the addresses that it came from and to; a sum 0 is of all of them.
func TestDecodeAddresses(t *testing.T) {
	x := noise(10)
	for _, c := range []struct {
		e    Ends
		data string
	}{{Ends{}, ""}, {Ends{}, "\xff\xda"}, {x.ends(), ""}, {x.ends(), x.text(31)}} {
		s := mustEncode(t, c.e, c.data)
		for at := range 4 {
			for turn := 1; turn < 256; turn++ {
				f, g := c.e, c.e
				f.Src[at] ^= byte(turn)
				g.Dst[at] ^= byte(turn)
				for _, other := range []Ends{f, g} {
					wantNoDatagram(t, other.Src, other.Dst, s, api.ErrSum)
					wantDatagram(t, withSum(s, 0), other, c.data)
				}
			}
		}
		// Both addresses come to the same number, whichever is the first one.
		about := c.e
		about.Src, about.Dst = c.e.Dst, c.e.Src
		wantDatagram(t, s, about, c.data)
	}
}

// P6.3: a byte that is another one is told, but where the sum becomes 0; that of the length by what it says.
func TestOneOtherByte(t *testing.T) {
	x := noise(11)
	unseen := 0
	for _, c := range []struct {
		e    Ends
		data string
	}{{Ends{}, ""}, {Ends{}, "\xff\xda"}, {Ends{From: 0xffdd}, ""}, {Ends{From: 0xfede}, ""}, {x.ends(), ""}, {x.ends(), "a"}, {x.ends(), zeros(9)}, {x.ends(), strings.Repeat("\xff", 40)}, {x.ends(), x.text(249)}} {
		s := mustEncode(t, c.e, c.data)
		for at := range len(s) {
			for turn := 1; turn < 256; turn++ {
				b := []byte(s)
				b[at] ^= byte(turn)
				other := string(b)
				switch {
				case at == 4, at == 5:
					if wantJudged(t, c.e.Src, c.e.Dst, other) == api.OK {
						t.Errorf("%s", front(other))
					}
				case other[6:8] == "\x00\x00":
					unseen++
					wantDatagram(t, other, c.e, c.data)
				default:
					wantNoDatagram(t, c.e.Src, c.e.Dst, other, api.ErrSum)
				}
			}
		}
	}
	if unseen < 2 {
		t.Error("few sums became 0:", unseen)
	}
}

// P6.3, T1: what was encoded is decoded by the same addresses, and that is encoded as the same bytes.
func TestEncodedIsDecoded(t *testing.T) {
	x := noise(12)
	for range 5000 {
		e, data := x.ends(), x.text(x.among(0, 1, 2, 17, x.next()%1500, x.next()%8193))
		s := mustEncode(t, e, data)
		f, d, wrong := Decode(e.Src, e.Dst, s)
		if f != e || d != data || wrong != api.OK || mustEncode(t, f, d) != s {
			t.Errorf("%v: %s, %v, %d", e, front(s), f, int(wrong))
		}
	}
}

// nearDatagram is bytes that are a datagram's, or nearly so.
func (x *noise) nearDatagram(e Ends) string {
	s := x.text(4) + pair(x.among(20, 20, 20, 20, 20, 20, 21, 19, 8, 7, 0, 8200, 8201, 65535)) + x.text(14)
	switch x.next() % 6 {
	case 0:
		s = withSum(s, 0)
	case 1:
		s = withSum(s, x.among(65535, ownSum(e.Src, e.Dst, s)^1, ownSum(e.Src, e.Dst, s)^256))
	case 2:
	default:
		s = summed(e.Src, e.Dst, s)
	}
	return s[:x.among(20, 20, 20, 20, 20, 20, 20, 20, 19, 8, 7, x.next()%20)]
}

// P6.2, T1: of whatever bytes, the error is the one that the chapter names first, and what is decoded is encoded as the same bytes, if it had a sum.
func TestDecodedIsEncoded(t *testing.T) {
	x := noise(13)
	times := map[api.Errno]int{}
	for range 50000 {
		e := x.ends()
		s := x.nearDatagram(e)
		want := wantJudged(t, e.Src, e.Dst, s)
		times[want]++
		if want != api.OK {
			continue
		}
		f, d, _ := Decode(e.Src, e.Dst, s)
		if again := mustEncode(t, f, d); again != s && s[6:8] != "\x00\x00" || again != summed(e.Src, e.Dst, s) {
			t.Errorf("%s; then %s", front(s), front(again))
		}
	}
	for _, e := range []api.Errno{api.OK, api.ErrShort, api.ErrLong, api.ErrField, api.ErrSum} {
		if times[e] < 1000 {
			t.Error("few of", int(e), times[e])
		}
	}
}

// R3: a call knows nothing of those ahead of it, errors among them.
func TestCallsAlone(t *testing.T) {
	x := noise(14)
	e, data := x.ends(), x.text(100)
	s := mustEncode(t, e, data)
	for range 3 {
		wantNoBytes(t, Ends{From: 65536}, "", api.ErrArg)
		wantNoBytes(t, e, zeros(8193), api.ErrLong)
		wantNoDatagram(t, e.Src, e.Dst, s[:7], api.ErrShort)
		wantNoDatagram(t, e.Src, e.Dst, s+"x", api.ErrLong)
		wantNoDatagram(t, e.Src, e.Dst, withSum(s, ownSum(e.Src, e.Dst, s)^1|2), api.ErrSum)
		if again := mustEncode(t, e, data); again != s {
			t.Errorf("%x; then %x", s, again)
		}
		wantDatagram(t, s, e, data)
		mustEncode(t, x.ends(), x.text(x.next()%1500))
	}
}

// The ways of the layer: Ends are a struct of arrays, and are held against each other as a whole.
func TestWays(t *testing.T) {
	e := Ends{Src: addr.IP{10, 0, 7, 2}}
	var _ [4]byte = e.Src
	var _ [4]byte = e.Dst
	file, err := parser.ParseFile(token.NewFileSet(), "udp.go", nil, 0)
	if err != nil {
		t.Fatal(err)
	}
	compared := 0
	ast.Inspect(file, func(n ast.Node) bool {
		x, ok := n.(*ast.BinaryExpr)
		if !ok || x.Op != token.EQL && x.Op != token.NEQ {
			return true
		}
		call, ok := x.X.(*ast.CallExpr)
		if !ok {
			return true
		}
		if f, ok := call.Fun.(*ast.Ident); ok && f.Name == "carried" {
			compared++
		}
		return true
	})
	if compared == 0 {
		t.Error("Ends are not compared as a whole")
	}
}
