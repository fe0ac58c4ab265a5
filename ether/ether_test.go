package ether

import (
	"encoding/binary"
	"encoding/hex"
	"go/ast"
	"go/parser"
	"go/token"
	"hash/crc32"
	"math"
	"strings"
	"testing"

	"pitot/api"
)

// noise is numbers that look like none, the same ones each time.
type noise uint64

func (x *noise) next() int {
	*x = *x*6364136223846793005 + 1442695040888963407
	return int(*x >> 33)
}

// among is one of few numbers.
func (x *noise) among(l ...int) int { return l[x.next()%len(l)] }

func (x *noise) text(n int) string {
	b := make([]byte, n)
	for i := range b {
		b[i] = byte(x.next())
	}
	return string(b)
}

// frame is one that may be, with so many bytes of Data.
func (x *noise) frame(long int) api.Frame {
	return api.Frame{VL: x.next()%65535 + 1, From: x.next() % 4096, Net: x.next() % 2, Seq: x.next() % 256, Data: x.text(long)}
}

func zeros(n int) string { return strings.Repeat("\x00", max(0, n)) }

// sealed is a text with its check sum behind.
func sealed(s string) string {
	return string(binary.LittleEndian.AppendUint32([]byte(s), crc32.ChecksumIEEE([]byte(s))))
}

// plain is a frame's bytes, as the chapter's words go.
func plain(f api.Frame) string {
	b := []byte{3, 0, 0, 0, byte(f.VL / 256), byte(f.VL % 256)}
	b = append(b, 2, 0, 0, byte(f.From/256), byte(f.From%256), byte(32+32*f.Net))
	b = append(b, 8, 0)
	b = append(b, f.Data...)
	for len(b)+1+4 < 64 {
		b = append(b, 0)
	}
	return sealed(string(append(b, byte(f.Seq))))
}

func mustEncode(t *testing.T, f api.Frame) string {
	t.Helper()
	s, e := Encode(f)
	if e != api.OK {
		t.Fatalf("%d, %d, %d, %d, %d bytes: %d", f.VL, f.From, f.Net, f.Seq, len(f.Data), int(e))
	}
	return s
}

func wantNoBytes(t *testing.T, f api.Frame, code api.Errno) {
	t.Helper()
	if s, e := Encode(f); s != "" || e != code {
		t.Errorf("%d, %d, %d, %d, %d bytes: %x, %d; want %d", f.VL, f.From, f.Net, f.Seq, len(f.Data), s, int(e), int(code))
	}
}

func wantFrame(t *testing.T, s string, want api.Frame) {
	t.Helper()
	if f, e := Decode(s); f != want || e != api.OK {
		t.Errorf("%x: %#v, %d; want %#v", s, f, int(e), want)
	}
}

func wantNoFrame(t *testing.T, s string, code api.Errno) {
	t.Helper()
	if f, e := Decode(s); f != (api.Frame{}) || e != code {
		t.Errorf("%d bytes, %x: %#v, %d; want %d", len(s), s, f, int(e), int(code))
	}
}

func wantLook(t *testing.T, s string, want int, code api.Errno) {
	t.Helper()
	if vl, e := Look(s); vl != want || e != code {
		t.Errorf("%x: %d, %d; want %d, %d", s, vl, int(e), want, int(code))
	}
}

// P4.1: how long a frame is, at all lengths of what it carries, and at those that may not be.
func TestSize(t *testing.T) {
	for n, want := range map[int]int{
		math.MinInt: 64, math.MinInt + 18: 64, -1519: 64, -20: 64, -19: 64, -1: 64,
		0: 64, 1: 64, 44: 64, 45: 64, 46: 65, 47: 66, 1000: 1019, 1498: 1517, 1499: 1518,
		1500: 1518, 1501: 1518, 1518: 1518, 1 << 31: 1518, 1 << 32: 1518, math.MaxInt - 19: 1518, math.MaxInt - 18: 1518, math.MaxInt: 1518,
	} {
		if got := Size(n); got != want {
			t.Errorf("%d: %d; want %d", n, got, want)
		}
	}
	for n := range Most + 1 {
		want := 64
		if n+19 > want {
			want = n + 19
		}
		if got := Size(n); got != want {
			t.Errorf("%d: %d; want %d", n, got, want)
		}
	}
	if Most != 1499 || Size(Most) != api.MaxFrame || Size(0) != api.MinFrame {
		t.Error(Most, Size(Most), Size(0))
	}
}

// P4.1: bytes that are known, the check sum too.
func TestEncode(t *testing.T) {
	for _, c := range []struct {
		f    api.Frame
		want string
	}{
		{api.Frame{VL: 1}, "030000000001" + "020000000020" + "0800" + strings.Repeat("00", 45) + "00" + "be22af7d"},
		{api.Frame{VL: 258, From: 3, Net: 1, Seq: 200, Data: "abc"}, "030000000102" + "020000000340" + "0800" + "616263" + strings.Repeat("00", 42) + "c8" + "fee55936"},
		{api.Frame{VL: 65535, From: 4095, Net: 1, Seq: 255, Data: strings.Repeat("\xff", 46)}, "03000000ffff" + "0200000fff40" + "0800" + strings.Repeat("ff", 46) + "ff" + "9bfe0032"},
	} {
		if s, e := Encode(c.f); hex.EncodeToString([]byte(s)) != c.want || e != api.OK {
			t.Errorf("%#v: %x, %d; want %s", c.f, s, int(e), c.want)
		}
	}
}

// P4.1: the bytes at all lengths of Data, and as many of them as Size says.
func TestEncodeAtAllLengths(t *testing.T) {
	x := noise(1)
	for long := range Most + 1 {
		f := x.frame(long)
		s := mustEncode(t, f)
		if s != plain(f) || len(s) != Size(long) {
			t.Errorf("%#v: %d bytes, %x", f, len(s), s)
		}
	}
}

// P4.1: Data is bytes, whatever signs they make.
func TestEncodeTakesBytes(t *testing.T) {
	f := api.Frame{VL: 1, Data: "é漢\xff\xfe\x00\xed\xa0\x80"}
	if s := mustEncode(t, f); s != plain(f) {
		t.Errorf("%x", s)
	}
}

// P4.1: at all numbers that have addresses, and at all of Seq.
func TestEncodeAtAllNumbers(t *testing.T) {
	for vl := 1; vl <= api.MaxVL; vl += 97 {
		wantBoth(t, api.Frame{VL: vl, Data: zeros(45)})
	}
	for from := range 4096 {
		wantBoth(t, api.Frame{VL: 1, From: from, Net: from % 2, Data: zeros(45)})
	}
	for seq := range 256 {
		wantBoth(t, api.Frame{VL: api.MaxVL, From: 4095, Net: seq % 2, Seq: seq, Data: zeros(45)})
	}
}

// wantBoth holds a frame that needs no filling against its bytes, both ways.
func wantBoth(t *testing.T, f api.Frame) {
	t.Helper()
	s := mustEncode(t, f)
	if s != plain(f) {
		t.Errorf("%#v: %x", f, s)
	}
	wantFrame(t, s, f)
	wantLook(t, s, f.VL, api.OK)
}

// P4.1, R1: numbers that have no address, and of Seq that are not from 0 to 255.
func TestEncodeRefusesNumbers(t *testing.T) {
	for _, f := range []api.Frame{
		{},
		{VL: 0, Data: "abc"},
		{VL: -1},
		{VL: 65536},
		{VL: 65537},
		{VL: 1<<32 + 1},
		{VL: math.MaxInt},
		{VL: math.MinInt},
		{VL: 1, From: -1},
		{VL: 1, From: 4096},
		{VL: 1, From: 65536},
		{VL: 1, From: math.MaxInt},
		{VL: 1, From: math.MinInt},
		{VL: 1, Net: -1},
		{VL: 1, Net: 2},
		{VL: 1, Net: math.MaxInt},
		{VL: 1, Net: math.MinInt},
		{VL: 1, Seq: -1},
		{VL: 1, Seq: 256},
		{VL: 1, Seq: 257},
		{VL: 1, Seq: 1 << 32},
		{VL: 1, Seq: math.MaxInt},
		{VL: 1, Seq: math.MinInt},
		{VL: 0, From: 4096, Net: 2, Seq: 256},
	} {
		wantNoBytes(t, f, api.ErrArg)
		// ErrArg is named first.
		f.Data = zeros(1500)
		wantNoBytes(t, f, api.ErrArg)
	}
}

// P4.1, R1: too many bytes of Data.
func TestEncodeLong(t *testing.T) {
	for _, long := range []int{1500, 1501, 1518, 1519, 65536, 1 << 20} {
		wantNoBytes(t, api.Frame{VL: 1, Data: zeros(long)}, api.ErrLong)
		wantNoBytes(t, api.Frame{VL: api.MaxVL, From: 4095, Net: 1, Seq: 255, Data: strings.Repeat("x", long)}, api.ErrLong)
	}
	mustEncode(t, api.Frame{VL: 1, Data: zeros(1499)})
}

// P4.2: of bytes that are known; Data is all that is ahead of Seq.
func TestDecode(t *testing.T) {
	head := "\x03\x00\x00\x00\x01\x02" + "\x02\x00\x00\x00\x03\x40" + "\x08\x00"
	wantFrame(t, sealed(head+"abc"+zeros(42)+"\xc8"), api.Frame{VL: 258, From: 3, Net: 1, Seq: 200, Data: "abc" + zeros(42)})
	wantFrame(t, sealed(head+zeros(45)+"\x00"), api.Frame{VL: 258, From: 3, Net: 1, Seq: 0, Data: zeros(45)})
	// What fills a frame up to 64 bytes is told by nothing: it is Data too, 0 or not.
	wantFrame(t, sealed(head+strings.Repeat("\xff", 45)+"\x01"), api.Frame{VL: 258, From: 3, Net: 1, Seq: 1, Data: strings.Repeat("\xff", 45)})
	wantFrame(t, sealed(head+strings.Repeat("d", 1499)+"\xff"), api.Frame{VL: 258, From: 3, Net: 1, Seq: 255, Data: strings.Repeat("d", 1499)})
	wantFrame(t, sealed(head+zeros(1499)+"\x00"), api.Frame{VL: 258, From: 3, Net: 1, Seq: 0, Data: zeros(1499)})
}

// P4.2, R1: lengths that no frame has, sealed or not; these errors are named first.
func TestDecodeLengths(t *testing.T) {
	head := "\x03\x00\x00\x00\x01\x02" + "\x02\x00\x00\x00\x03\x40" + "\x08\x00"
	for long := range 64 {
		wantNoFrame(t, zeros(long), api.ErrShort)
		wantNoFrame(t, strings.Repeat("x", long), api.ErrShort)
		if long >= 4 {
			wantNoFrame(t, sealed((head + zeros(64))[:long-4]), api.ErrShort)
		}
	}
	for _, long := range []int{1519, 1520, 3000, 1 << 20} {
		wantNoFrame(t, strings.Repeat("x", long), api.ErrLong)
		wantNoFrame(t, sealed(head+zeros(long-4-len(head))), api.ErrLong)
		wantNoFrame(t, sealed(zeros(long-4)), api.ErrLong)
	}
	whole := mustEncode(t, api.Frame{VL: 1, Data: zeros(1499)})
	for i := range len(whole) {
		code := api.ErrSum
		if i < 64 {
			code = api.ErrShort
		}
		wantNoFrame(t, whole[:i], code)
	}
	wantNoFrame(t, whole+"\x00", api.ErrLong)
}

// P4.2, R1: bytes that are not sealed, whatever else is wrong.
func TestDecodeNotSealed(t *testing.T) {
	s := mustEncode(t, api.Frame{VL: 1, Data: "abc"})
	for _, c := range []string{
		strings.Repeat("x", 64),
		strings.Repeat("x", 1518),
		zeros(64),
		zeros(1518),
		s + "\x00",
		"\x00" + s,
		s[:60] + "\x00\x00\x00\x00",
		s[:60] + s[63:] + s[62:63] + s[61:62] + s[60:61], // the highest byte first
		"\x04" + s[1:],
		s[:12] + "\x08\x06" + s[14:],
	} {
		wantNoFrame(t, c, api.ErrSum)
	}
}

// turned is a frame's bytes with others at a place, sealed anew.
func turned(s string, at int, other string) string {
	return sealed(s[:at] + other + s[at+len(other):len(s)-4])
}

// P4.2, R1: addresses that may not be, and kinds; an address is named ahead of a kind.
func TestDecodeRefusesHeads(t *testing.T) {
	for _, long := range []int{0, 45, 46, 1499} {
		s := mustEncode(t, api.Frame{VL: 258, From: 7, Net: 1, Seq: 9, Data: strings.Repeat("d", long)})
		for _, c := range []struct {
			at    int
			other string
			code  api.Errno
		}{
			{0, "\x02", api.ErrAddr},
			{0, "\x04", api.ErrAddr},
			{1, "\x01", api.ErrAddr},
			{2, "\x01", api.ErrAddr},
			{3, "\x01", api.ErrAddr},
			{4, "\x00\x00", api.ErrAddr}, // the number 0 is no link's
			{0, "\x02\x00\x00\x00\x07\x40\x03\x00\x00\x00\x01\x02", api.ErrAddr},
			{0, "\x02\x00\x00\x00\x07\x40", api.ErrAddr},
			{0, "\xff\xff\xff\xff\xff\xff", api.ErrAddr},
			{6, "\x03", api.ErrAddr},
			{6, "\x03\x00\x00\x00\x01\x02", api.ErrAddr},
			{7, "\x01", api.ErrAddr},
			{8, "\x01", api.ErrAddr},
			{9, "\x10", api.ErrAddr}, // 4096 and more
			{11, "\x00", api.ErrAddr},
			{11, "\x60", api.ErrAddr},
			{0, zeros(14), api.ErrAddr},
			{12, "\x09", api.ErrKind},
			{12, "\x00\x08", api.ErrKind},
			{12, "\x08\x06", api.ErrKind},
			{12, "\x00\x00", api.ErrKind},
			{12, "\x86\xdd", api.ErrKind},
			{11, "\x60\x08\x06", api.ErrAddr},
			{0, "\x04\x00\x00\x00\x01\x02\x02\x00\x00\x00\x07\x40\x08\x06", api.ErrAddr},
		} {
			wantNoFrame(t, turned(s, c.at, c.other), c.code)
		}
	}
}

// P4.2: all bytes of the kind but 08 00 are refused.
func TestKinds(t *testing.T) {
	want := api.Frame{VL: 258, From: 7, Net: 1, Seq: 9, Data: zeros(45)}
	s := mustEncode(t, want)
	for kind := range 65536 {
		c := turned(s, 12, string([]byte{byte(kind >> 8), byte(kind)}))
		if kind == 0x0800 {
			wantFrame(t, c, want)
		} else {
			wantNoFrame(t, c, api.ErrKind)
		}
	}
}

// P4.2: the link is told by twelve bytes alone, whatever stands behind them.
func TestLook(t *testing.T) {
	s := mustEncode(t, api.Frame{VL: 258, From: 7, Net: 1, Seq: 9, Data: "abc"})
	for i := range len(s) + 1 {
		if i < 12 {
			wantLook(t, s[:i], 0, api.ErrShort)
		} else {
			wantLook(t, s[:i], 258, api.OK)
		}
	}
	for _, behind := range []string{"x", zeros(52), strings.Repeat("\xff", 52), zeros(1 << 20)} {
		wantLook(t, s[:12]+behind, 258, api.OK)
	}
	wantLook(t, "\x03\x00\x00\x00\xff\xff\x02\x00\x00\x0f\xff\x20", 65535, api.OK)
	wantLook(t, "\x03\x00\x00\x00\x00\x01\x02\x00\x00\x00\x00\x40", 1, api.OK)
}

// P4.2, R1: too few bytes are named ahead of addresses that may not be.
func TestLookRefuses(t *testing.T) {
	for long := range 12 {
		wantLook(t, zeros(long), 0, api.ErrShort)
		wantLook(t, strings.Repeat("\xff", long), 0, api.ErrShort)
	}
	const link, end = "\x03\x00\x00\x00\x01\x02", "\x02\x00\x00\x00\x07\x40"
	for _, s := range []string{
		zeros(12),
		strings.Repeat("\xff", 12),
		end + link,
		link + link,
		end + end,
		link + zeros(6),
		zeros(6) + end,
		"\x03\x00\x00\x00\x00\x00" + end,
		"\x03\x00\x00\x01\x01\x02" + end,
		"\x02\x00\x00\x00\x01\x02" + end,
		link + "\x02\x00\x00\x10\x00\x40",
		link + "\x02\x00\x00\x00\x07\x60",
		link + "\x02\x00\x00\x00\x07\x00",
		link + "\x02\x01\x00\x00\x07\x40",
		"\x00" + link + end,
	} {
		wantLook(t, s, 0, api.ErrAddr)
		wantLook(t, s+zeros(100), 0, api.ErrAddr)
	}
}

// P4.2: each other byte of both addresses, held against their words.
func TestHeadsByteByByte(t *testing.T) {
	whole := mustEncode(t, api.Frame{VL: 258, From: 7, Net: 1, Seq: 9, Data: zeros(45)})
	for at := range 12 {
		for b := range 256 {
			s := turned(whole, at, string([]byte{byte(b)}))
			vl := int(s[4])*256 + int(s[5])
			from := int(s[9])*256 + int(s[10])
			may := s[:4] == "\x03\x00\x00\x00" && vl > 0 && s[6:9] == "\x02\x00\x00" && from < 4096 && (s[11] == 32 || s[11] == 64)
			if may {
				wantFrame(t, s, api.Frame{VL: vl, From: from, Net: int(s[11])/32 - 1, Seq: 9, Data: zeros(45)})
				wantLook(t, s, vl, api.OK)
			} else {
				wantNoFrame(t, s, api.ErrAddr)
				wantLook(t, s, 0, api.ErrAddr)
			}
		}
	}
}

// P4.3, T1: what was encoded is decoded, with bytes 0 up to 45, and that is encoded as the same bytes.
func TestEncodedIsDecoded(t *testing.T) {
	x := noise(2)
	for long := range Most + 1 {
		f := x.frame(long)
		for _, data := range []string{f.Data, zeros(long), strings.Repeat("\xff", long)} {
			f.Data = data
			s := mustEncode(t, f)
			want := f
			want.Data += zeros(45 - long)
			wantFrame(t, s, want)
			wantLook(t, s, f.VL, api.OK)
			if again := mustEncode(t, want); again != s {
				t.Errorf("%#v: %x; then %x", f, s, again)
			}
		}
	}
}

// P4.3, T1: whatever bytes are decoded, they are the Encode of what is answered.
func TestDecodedIsEncoded(t *testing.T) {
	x := noise(3)
	times := 0
	for range 20000 {
		s := sealed(x.nearFrame())
		f, e := Decode(s)
		if e == api.OK {
			times++
			if len(f.Data) != len(s)-19 || mustEncode(t, f) != s {
				t.Errorf("%x: %#v", s, f)
			}
		} else if f != (api.Frame{}) {
			t.Errorf("%x: %#v with %d", s, f, int(e))
		}
	}
	if times < 1000 {
		t.Error("few frames", times)
	}
}

// nearFrame is bytes that are a frame's, or nearly so.
func (x *noise) nearFrame() string {
	b := []byte{byte(x.among(3, 3, 3, 3, 2)), 0, 0, 0, byte(x.among(0, 1, 255)), byte(x.among(0, 1, 2, 255))}
	b = append(b, byte(x.among(2, 2, 2, 2, 3)), 0, 0, byte(x.among(0, 15, 15, 16)), byte(x.next()), byte(x.among(32, 64, 64, 96)))
	b = append(b, byte(x.among(8, 8, 8, 9)), byte(x.among(0, 0, 0, 6)))
	return string(b) + x.text(x.among(44, 45, 46, 47, 60, 100))
}

// P4.3: a byte that is another one is told, at each place, whichever it is.
func TestOneOtherByte(t *testing.T) {
	x := noise(4)
	for _, long := range []int{0, 45, 46, 100} {
		wantOtherBytesTold(t, mustEncode(t, x.frame(long)), 1)
	}
	wantOtherBytesTold(t, mustEncode(t, x.frame(1499)), 37)
}

// wantOtherBytesTold puts another byte at each place of a frame, so far apart.
func wantOtherBytesTold(t *testing.T, s string, step int) {
	t.Helper()
	for i := range len(s) {
		b := []byte(s)
		for turn := 1; turn < 256; turn += step {
			b[i] = s[i] ^ byte(turn)
			wantNoFrame(t, string(b), api.ErrSum)
		}
	}
}

// R3: a call knows nothing of those ahead of it, errors among them.
func TestCallsAlone(t *testing.T) {
	x := noise(5)
	f := x.frame(100)
	s := mustEncode(t, f)
	for range 3 {
		wantNoBytes(t, api.Frame{VL: 1, Seq: 256}, api.ErrArg)
		wantNoBytes(t, api.Frame{VL: 1, Data: zeros(1500)}, api.ErrLong)
		wantNoFrame(t, s[:63], api.ErrShort)
		wantNoFrame(t, s[1:], api.ErrSum)
		wantLook(t, "", 0, api.ErrShort)
		if again := mustEncode(t, f); again != s {
			t.Errorf("%x; then %x", s, again)
		}
		wantFrame(t, s, f)
		wantLook(t, s, f.VL, api.OK)
		mustEncode(t, x.frame(x.next()%1500))
	}
}

// The way of the layer: addresses, which are arrays, are made of slices by conversions.
func TestWays(t *testing.T) {
	file, err := parser.ParseFile(token.NewFileSet(), "ether.go", nil, 0)
	if err != nil {
		t.Fatal(err)
	}
	times := 0
	ast.Inspect(file, func(n ast.Node) bool {
		call, ok := n.(*ast.CallExpr)
		if !ok || len(call.Args) != 1 {
			return true
		}
		to, ok := call.Fun.(*ast.SelectorExpr)
		_, slice := call.Args[0].(*ast.SliceExpr)
		if ok && slice && to.Sel.Name == "MAC" {
			times++
		}
		return true
	})
	if times < 2 {
		t.Error("conversions of a slice to an address:", times)
	}
}
