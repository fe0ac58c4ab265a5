package icmp

import (
	"encoding/hex"
	"go/ast"
	"go/parser"
	"go/token"
	"math"
	"strings"
	"testing"

	"pitot/addr"
	"pitot/api"
	"pitot/ipv4"
)

// noise is numbers that look like none, the same ones each time.
type noise uint64

func (x *noise) next() int {
	*x = *x*6364136223846793005 + 1442695040888963407
	return int(*x >> 33)
}

// among is one of few numbers.
func (x *noise) among(l ...int) int { return l[x.next()%len(l)] }

func (x *noise) text(n int) string {
	b := make([]byte, n)
	for i := range b {
		b[i] = byte(x.next())
	}
	return string(b)
}

func (x *noise) ip() addr.IP { return addr.IP([]byte(x.text(4))) }

// echo is one that may be.
func (x *noise) echo() Echo {
	return Echo{Answer: x.next()%2 == 0, ID: x.next() % 65536, Seq: x.next() % 65536, Data: x.text(x.next() % 65)}
}

// asking is an echo that asks.
func (x *noise) asking() Echo {
	y := x.echo()
	y.Answer = false
	return y
}

// packet is one that asks an address what an echo asks.
func (x *noise) packet(t *testing.T, own addr.IP, y Echo) ipv4.Packet {
	t.Helper()
	return ipv4.Packet{ID: x.next() % 65536, TTL: x.next() % 256, Proto: 1, Src: x.ip(), Dst: own, Data: mustEncode(t, y)}
}

func zeros(n int) string { return strings.Repeat("\x00", n) }

func pair(n int) string { return string([]byte{byte(n / 256), byte(n % 256)}) }

// ownSum is the sum that belongs to an echo's bytes, whichever sum they hold.
func ownSum(s string) int {
	all := s[:2] + s[4:]
	if len(all)%2 == 1 {
		all += "\x00"
	}
	sum := 0
	for i := 0; i < len(all); i += 2 {
		sum += int(all[i])*256 + int(all[i+1])
	}
	for sum > 65535 {
		sum = sum/65536 + sum%65536
	}
	return 65535 - sum
}

// withSum is an echo's bytes with a sum of one's choice.
func withSum(s string, sum int) string { return s[:2] + pair(sum) + s[4:] }

// summed is bytes with the sum that belongs to them.
func summed(s string) string { return withSum(s, ownSum(s)) }

// spelled is an echo's bytes, as the chapter's words go.
func spelled(x Echo) string {
	front := "\x08\x00"
	if x.Answer {
		front = "\x00\x00"
	}
	return summed(front + "\x00\x00" + pair(x.ID) + pair(x.Seq) + x.Data)
}

// judged is what the chapter's words say of bytes.
func judged(s string) api.Errno {
	switch {
	case len(s) < 8:
		return api.ErrShort
	case len(s) > 72:
		return api.ErrLong
	case s[0] != 8 && s[0] != 0, s[1] != 0:
		return api.ErrKind
	case s[2:4] != pair(ownSum(s)):
		return api.ErrSum
	}
	return api.OK
}

// answered is what the chapter's words say of a packet, as one that asks.
func answered(own addr.IP, p ipv4.Packet) (ipv4.Packet, api.Errno) {
	wrong := judged(p.Data)
	switch {
	case p.Proto != 1:
		return ipv4.Packet{}, api.ErrKind
	case p.Dst != own:
		return ipv4.Packet{}, api.ErrAddr
	case p.More, p.Off != 0:
		return ipv4.Packet{}, api.ErrField
	case wrong != api.OK:
		return ipv4.Packet{}, wrong
	case p.Data[0] == 0:
		return ipv4.Packet{}, api.ErrKind
	}
	return ipv4.Packet{ID: p.ID, TTL: 1, Proto: 1, Src: own, Dst: p.Src, Data: summed("\x00" + p.Data[1:])}, api.OK
}

// front is what is told of bytes.
func front(s string) string { return hex.EncodeToString([]byte(s[:min(len(s), 80)])) }

func mustEncode(t *testing.T, x Echo) string {
	t.Helper()
	s, wrong := Encode(x)
	if wrong != api.OK {
		t.Fatalf("%v: %d", x, int(wrong))
	}
	return s
}

func wantNoBytes(t *testing.T, x Echo, code api.Errno) {
	t.Helper()
	if s, wrong := Encode(x); s != "" || wrong != code {
		t.Errorf("%d, %d, %d bytes: %s, %d; want %d", x.ID, x.Seq, len(x.Data), front(s), int(wrong), int(code))
	}
}

func wantEcho(t *testing.T, s string, want Echo) {
	t.Helper()
	if x, wrong := Decode(s); x != want || wrong != api.OK {
		t.Errorf("%s: %v, %d; want %v", front(s), x, int(wrong), want)
	}
}

func wantNoEcho(t *testing.T, s string, code api.Errno) {
	t.Helper()
	if x, wrong := Decode(s); x != (Echo{}) || wrong != code {
		t.Errorf("%d bytes, %s: %v, %d; want %d", len(s), front(s), x, int(wrong), int(code))
	}
}

// wantJudged holds bytes to what the chapter's words say of them.
func wantJudged(t *testing.T, s string) api.Errno {
	t.Helper()
	want := judged(s)
	if want != api.OK {
		wantNoEcho(t, s, want)
		return want
	}
	wantEcho(t, s, Echo{Answer: s[0] == 0, ID: int(s[4])*256 + int(s[5]), Seq: int(s[6])*256 + int(s[7]), Data: s[8:]})
	return want
}

// wantBoth holds an echo, and the same one as an answer, against its bytes, both ways.
func wantBoth(t *testing.T, x Echo) {
	t.Helper()
	for range 2 {
		s := mustEncode(t, x)
		if s != spelled(x) {
			t.Errorf("%v: %s", x, front(s))
		}
		wantEcho(t, s, x)
		x.Answer = !x.Answer
	}
}

// wantAnswered holds what is replied to what the chapter's words say.
func wantAnswered(t *testing.T, own addr.IP, p ipv4.Packet) api.Errno {
	t.Helper()
	want, code := answered(own, p)
	if q, wrong := Reply(own, p); q != want || wrong != code {
		t.Errorf("%v, %v: %v, %d; want %v, %d", own, p, q, int(wrong), want, int(code))
	}
	return code
}

func wantNoReply(t *testing.T, own addr.IP, p ipv4.Packet, code api.Errno) {
	t.Helper()
	if q, wrong := Reply(own, p); q != (ipv4.Packet{}) || wrong != code {
		t.Errorf("%v, %v: %v, %d; want %d", own, p, q, int(wrong), int(code))
	}
}

// P7.1: bytes that are known, both ways, the sums reckoned by hand.
func TestKnown(t *testing.T) {
	for _, c := range []struct {
		text string
		x    Echo
	}{
		{"0800f7ff" + "00000000", Echo{}},
		{"0000ffff" + "00000000", Echo{Answer: true}},
		{"080006f6" + "12340005" + "70696e67", Echo{ID: 0x1234, Seq: 5, Data: "ping"}},
		{"08009ffc" + "00010002" + "5800", Echo{ID: 1, Seq: 2, Data: "X\x00"}},
		{"08009ffc" + "00010002" + "58", Echo{ID: 1, Seq: 2, Data: "X"}},
		// Sums that are 0, and next to them.
		{"08000000" + "f7ff0000", Echo{ID: 0xf7ff}},
		{"08000000" + "0000f7ff", Echo{Seq: 0xf7ff}},
		{"08000001" + "f7fe0000", Echo{ID: 0xf7fe}},
		{"0800fffe" + "f8000000", Echo{ID: 0xf800}},
		{"00000000" + "ffffffff", Echo{Answer: true, ID: 65535, Seq: 65535}},
		{"00000000" + "ffff0000", Echo{Answer: true, ID: 65535}},
		{"0000fffe" + "ffff0001", Echo{Answer: true, ID: 65535, Seq: 1}},
	} {
		if s, wrong := Encode(c.x); hex.EncodeToString([]byte(s)) != c.text || wrong != api.OK {
			t.Errorf("%v: %x, %d; want %s", c.x, s, int(wrong), c.text)
		}
		b, err := hex.DecodeString(c.text)
		if err != nil {
			t.Fatal(err)
		}
		wantEcho(t, string(b), c.x)
	}
	if Proto != 1 || Most != 64 {
		t.Error(Proto, Most)
	}
}

// P7.1: at all numbers that there are.
func TestAllNumbers(t *testing.T) {
	x := noise(1)
	y := x.echo()
	for n := range 65536 {
		f, g := y, y
		f.ID, g.Seq = n, n
		wantBoth(t, f)
		wantBoth(t, g)
	}
}

// P7.1: at all lengths, odd ones among them; what is carried is bytes, whatever signs they make.
func TestLengths(t *testing.T) {
	x := noise(2)
	for long := range 65 {
		for _, data := range []string{x.text(long), x.text(long), zeros(long), strings.Repeat("\xff", long)} {
			y := x.echo()
			y.Data = data
			wantBoth(t, y)
			wantBoth(t, Echo{Data: data})
			wantBoth(t, Echo{ID: 65535, Seq: 65535, Data: data})
		}
	}
	wantBoth(t, Echo{Data: "é漢\xff\xfe\x00\xed\xa0\x80"})
}

// P7.1, R1: numbers that there are not; of two faults ErrArg is named first.
func TestEncodeRefusesNumbers(t *testing.T) {
	x := noise(3)
	for _, n := range []int{-1, -2, -65535, -65536, 65536, 65537, 131071, 131072, 1 << 31, 1 << 32, 1<<32 + 1, -1 << 32, math.MaxInt, math.MinInt, math.MinInt + 1} {
		for _, data := range []string{"", "hi", zeros(64), zeros(65)} {
			for _, y := range []Echo{{}, {Answer: true}, x.echo()} {
				y.Data = data
				f, g := y, y
				f.ID, g.Seq = n, n
				wantNoBytes(t, f, api.ErrArg)
				wantNoBytes(t, g, api.ErrArg)
				f.Seq = n
				wantNoBytes(t, f, api.ErrArg)
			}
		}
	}
}

// P7.1, R1: too many bytes.
func TestEncodeLong(t *testing.T) {
	for _, long := range []int{65, 66, 72, 73, 128, 256, 65535, 65536, 1 << 20} {
		wantNoBytes(t, Echo{Data: zeros(long)}, api.ErrLong)
		wantNoBytes(t, Echo{Answer: true, ID: 65535, Seq: 65535, Data: strings.Repeat("x", long)}, api.ErrLong)
	}
}

// P7.1, R1: fewer than 8 bytes, and more than 72, whatever they are.
func TestDecodeLengths(t *testing.T) {
	x := noise(4)
	whole := mustEncode(t, Echo{ID: 1, Seq: 2, Data: x.text(64)})
	for long := range 8 {
		for _, s := range []string{whole[:long], zeros(long), strings.Repeat("\xff", long), x.text(long)} {
			wantNoEcho(t, s, api.ErrShort)
		}
	}
	for _, long := range []int{73, 74, 80, 136, 137, 256, 65536, 1 << 20} {
		for _, s := range []string{whole + zeros(long-72), zeros(long), strings.Repeat("\xff", long), x.text(long), summed("\x08\x00\x00\x00" + x.text(long-4))} {
			wantNoEcho(t, s, api.ErrLong)
		}
	}
	wantNoEcho(t, zeros(8), api.ErrSum)
	wantNoEcho(t, zeros(72), api.ErrSum)
}

// P7.1, R1: all first and second bytes, ahead of the sum, be it right or not.
func TestDecodeKinds(t *testing.T) {
	x := noise(5)
	for first := range 256 {
		for second := range 256 {
			s := summed(string([]byte{byte(first), byte(second)}) + "\x00\x00" + x.text(4+second%65))
			other := withSum(s, ownSum(s)^1)
			if second != 0 || first != 0 && first != 8 {
				wantNoEcho(t, s, api.ErrKind)
				wantNoEcho(t, other, api.ErrKind)
				continue
			}
			wantEcho(t, s, Echo{Answer: first == 0, ID: int(s[4])*256 + int(s[5]), Seq: int(s[6])*256 + int(s[7]), Data: s[8:]})
			wantNoEcho(t, other, api.ErrSum)
		}
	}
}

// P7.1, R1: all sums but one are refused; 0 is a sum as others are.
func TestDecodeSum(t *testing.T) {
	x := noise(6)
	for _, y := range []Echo{{}, {Answer: true}, {ID: 0xf7ff}, {Answer: true, ID: 65535}, {Seq: 0xf7fe}, x.echo(), x.echo(), {Data: x.text(64)}} {
		s := mustEncode(t, y)
		right := ownSum(s)
		for n := range 65536 {
			if n == right {
				wantEcho(t, withSum(s, n), y)
				continue
			}
			wantNoEcho(t, withSum(s, n), api.ErrSum)
		}
	}
}

// P7.1: a byte that is another one is told, by the kind that it says or by the sum.
func TestOneOtherByte(t *testing.T) {
	x := noise(7)
	for _, y := range []Echo{{}, {Answer: true}, {ID: 0xf7ff}, {Answer: true, ID: 65535, Seq: 65535}, {ID: 0xf7fe}, x.echo(), {Data: zeros(9)}, {Data: strings.Repeat("\xff", 40)}, {Data: x.text(64)}} {
		s := mustEncode(t, y)
		for at := range len(s) {
			for turn := 1; turn < 256; turn++ {
				b := []byte(s)
				b[at] ^= byte(turn)
				if wantJudged(t, string(b)) == api.OK {
					t.Errorf("%x", b)
				}
			}
		}
	}
}

// P7.3, T1: what was encoded is decoded, and that is encoded as the same bytes.
func TestEncodedIsDecoded(t *testing.T) {
	x := noise(8)
	for range 20000 {
		y := x.echo()
		s := mustEncode(t, y)
		z, wrong := Decode(s)
		if z != y || wrong != api.OK || mustEncode(t, z) != s || s != spelled(y) {
			t.Errorf("%v: %s, %v, %d", y, front(s), z, int(wrong))
		}
	}
}

// nearEcho is bytes that are an echo's, or nearly so.
func (x *noise) nearEcho() string {
	first, second := x.among(8, 8, 8, 0, 0, 0, 3, 128, 255), x.among(0, 0, 0, 0, 0, 0, 1, 8, 128)
	s := string([]byte{byte(first), byte(second)}) + x.text(x.among(6, 6, 7, 8, 20, 69, 70, 71, 72, 6+x.next()%64))
	switch x.next() % 6 {
	case 0:
		s = withSum(s, x.among(0, 65535, ownSum(s)^1, ownSum(s)^256))
	case 1:
	default:
		s = summed(s)
	}
	return s[:x.among(len(s), len(s), len(s), len(s), len(s), len(s), x.next()%8)]
}

// P7.1, P7.3, T1: of whatever bytes, the error is the one that the chapter names first, and what is decoded is encoded as the same bytes.
func TestDecodedIsEncoded(t *testing.T) {
	x := noise(9)
	times := map[api.Errno]int{}
	for range 50000 {
		s := x.nearEcho()
		want := wantJudged(t, s)
		times[want]++
		if want != api.OK {
			continue
		}
		y, _ := Decode(s)
		if again := mustEncode(t, y); again != s {
			t.Errorf("%s; then %s", front(s), front(again))
		}
	}
	for _, e := range []api.Errno{api.OK, api.ErrShort, api.ErrLong, api.ErrKind, api.ErrSum} {
		if times[e] < 1000 {
			t.Error("few of", int(e), times[e])
		}
	}
}

// P7.2: what is replied, field by field.
func TestReplyKnown(t *testing.T) {
	own, other := addr.IP{10, 0, 7, 2}, addr.IP{10, 0, 3, 1}
	p := ipv4.Packet{ID: 77, TTL: 9, Proto: 1, Src: other, Dst: own, Data: "\x08\x00\x06\xf6\x12\x34\x00\x05ping"}
	q, wrong := Reply(own, p)
	if want := (ipv4.Packet{ID: 77, TTL: 1, Proto: 1, Src: own, Dst: other, Data: "\x00\x00\x0e\xf6\x12\x34\x00\x05ping"}); q != want || wrong != api.OK {
		t.Errorf("%v, %d; want %v", q, int(wrong), want)
	}
}

// P7.2, P7.3: whatever is asked is carried back, whoever asks, himself and address 0 among them; what is replied is a packet of IP.
func TestReplyCarries(t *testing.T) {
	x := noise(10)
	for range 20000 {
		own, y := x.ip(), x.asking()
		p := x.packet(t, own, y)
		switch x.next() % 4 {
		case 0:
			p.Src = own
		case 1:
			own, p.Dst = addr.IP{}, addr.IP{}
		case 2:
			p.Src = addr.IP{}
		}
		if wantAnswered(t, own, p) != api.OK {
			t.Fatal(own, p)
		}
		q, _ := Reply(own, p)
		y.Answer = true
		wantEcho(t, q.Data, y)
		if s, wrong := ipv4.Encode(q); wrong != api.OK || len(s) != 20+len(p.Data) {
			t.Errorf("%v: %d", q, int(wrong))
		}
	}
	for n := range 65536 {
		p := ipv4.Packet{ID: n, TTL: n % 256, Proto: 1, Data: mustEncode(t, Echo{Seq: n})}
		wantAnswered(t, addr.IP{}, p)
	}
}

// P7.2: ID and TTL of the packet that asks are looked at by nobody; numbers that no packet has among them.
func TestReplyOfAnyNumbers(t *testing.T) {
	data := mustEncode(t, Echo{ID: 3, Seq: 4, Data: "x"})
	for _, n := range []int{0, 1, -1, 255, 256, 65535, 65536, math.MaxInt, math.MinInt} {
		for _, p := range []ipv4.Packet{{ID: n, Proto: 1, Data: data}, {TTL: n, Proto: 1, Data: data}} {
			if wantAnswered(t, addr.IP{}, p) != api.OK {
				t.Error(n)
			}
		}
	}
}

// P7.2, R1: packets of another kind, each of all numbers, and those that no packet has.
func TestReplyRefusesKinds(t *testing.T) {
	x := noise(11)
	own := x.ip()
	p := x.packet(t, own, x.asking())
	for n := -300; n < 600; n++ {
		q := p
		q.Proto = n
		if n == 1 {
			wantAnswered(t, own, q)
			continue
		}
		wantNoReply(t, own, q, api.ErrKind)
		wantNoReply(t, x.ip(), q, api.ErrKind)
	}
	for _, n := range []int{1 + 1<<16, 1 + 1<<32, math.MaxInt, math.MinInt, math.MinInt + 1} {
		q := p
		q.Proto = n
		wantNoReply(t, own, q, api.ErrKind)
	}
}

// P7.2, R1: packets to another address, in whichever byte it is another one.
func TestReplyRefusesAddresses(t *testing.T) {
	x := noise(12)
	own := x.ip()
	p := x.packet(t, own, x.asking())
	for at := range 4 {
		for turn := 1; turn < 256; turn++ {
			q := p
			q.Dst[at] ^= byte(turn)
			wantNoReply(t, own, q, api.ErrAddr)
			wantAnswered(t, q.Dst, q)
			q.Src = own
			wantNoReply(t, own, q, api.ErrAddr)
		}
	}
}

// P7.2, R1: parts, be they the first one, one between or the last one.
func TestReplyRefusesParts(t *testing.T) {
	x := noise(13)
	own := x.ip()
	p := x.packet(t, own, x.asking())
	for _, off := range []int{0, 1, 2, 8, 255, 256, 4096, 8191, 8192, 1 << 13, 1 << 16, 1 << 32, -1, -8, math.MaxInt, math.MinInt} {
		for _, more := range []bool{false, true} {
			q := p
			q.Off, q.More = off, more
			if off == 0 && !more {
				wantAnswered(t, own, q)
				continue
			}
			wantNoReply(t, own, q, api.ErrField)
		}
	}
}

// P7.2, R1: what is wrong with the bytes is told as Decode tells it.
func TestReplyRefusesData(t *testing.T) {
	x := noise(14)
	own := x.ip()
	p := x.packet(t, own, Echo{ID: 1, Seq: 2, Data: x.text(64)})
	for _, c := range []struct {
		data string
		code api.Errno
	}{
		{"", api.ErrShort},
		{p.Data[:7], api.ErrShort},
		{p.Data + "\x00", api.ErrLong},
		{zeros(65515), api.ErrLong},
		{summed("\x03" + p.Data[1:]), api.ErrKind},
		{summed("\x08\x01" + p.Data[2:]), api.ErrKind},
		{p.Data[:71], api.ErrSum},
		{withSum(p.Data, ownSum(p.Data)^1), api.ErrSum},
		{withSum("\x00"+p.Data[1:], 0), api.ErrSum},
	} {
		q := p
		q.Data = c.data
		wantNoReply(t, own, q, c.code)
	}
}

// P7.2, P7.3, R1: an answer is not replied to, so that a Reply to a Reply is none.
func TestReplyToReply(t *testing.T) {
	x := noise(15)
	for range 5000 {
		own, y := x.ip(), x.asking()
		p := x.packet(t, own, y)
		q, wrong := Reply(own, p)
		if wrong != api.OK {
			t.Fatal(own, p, int(wrong))
		}
		wantNoReply(t, p.Src, q, api.ErrKind)
		y.Answer = true
		wantNoReply(t, own, x.packet(t, own, y), api.ErrKind)
	}
}

// P7.2, R1: of several errors, the one that the chapter names first.
func TestReplyOrder(t *testing.T) {
	x := noise(16)
	times := map[api.Errno]int{}
	for range 50000 {
		own := x.ip()
		p := ipv4.Packet{ID: x.next() % 65536, TTL: x.next() % 256, Proto: x.among(1, 1, 1, 1, 17, 0), Src: x.ip(), Dst: own, Data: x.nearEcho()}
		p.Off, p.More = x.among(0, 0, 0, 0, 0, 1, 8191), x.next()%8 == 0
		if x.next()%6 == 0 {
			p.Dst[x.next()%4] ^= 1
		}
		times[wantAnswered(t, own, p)]++
	}
	for _, e := range []api.Errno{api.OK, api.ErrShort, api.ErrLong, api.ErrKind, api.ErrSum, api.ErrAddr, api.ErrField} {
		if times[e] < 1000 {
			t.Error("few of", int(e), times[e])
		}
	}
}

// R3: a call knows nothing of those ahead of it, errors among them.
func TestCallsAlone(t *testing.T) {
	x := noise(17)
	own, y := x.ip(), Echo{ID: 3, Seq: 4, Data: "carried"}
	p := x.packet(t, own, y)
	for range 3 {
		wantNoBytes(t, Echo{ID: 65536}, api.ErrArg)
		wantNoBytes(t, Echo{Data: zeros(65)}, api.ErrLong)
		wantNoEcho(t, p.Data[:7], api.ErrShort)
		wantNoEcho(t, withSum(p.Data, ownSum(p.Data)^1), api.ErrSum)
		wantNoReply(t, p.Src, p, api.ErrAddr)
		if s := mustEncode(t, y); s != p.Data {
			t.Errorf("%x; then %x", p.Data, s)
		}
		wantEcho(t, p.Data, y)
		wantAnswered(t, own, p)
		wantAnswered(t, own, x.packet(t, own, x.echo()))
	}
}

// The way of the layer: an echo is told from others by a switch whose cases fall through.
func TestWays(t *testing.T) {
	file, err := parser.ParseFile(token.NewFileSet(), "icmp.go", nil, 0)
	if err != nil {
		t.Fatal(err)
	}
	falls := 0
	ast.Inspect(file, func(n ast.Node) bool {
		if x, ok := n.(*ast.BranchStmt); ok && x.Tok == token.FALLTHROUGH {
			falls++
		}
		return true
	})
	if falls == 0 {
		t.Error("no case falls through")
	}
}
