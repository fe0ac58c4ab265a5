package reasm

import (
	"math"
	"slices"
	"strings"
	"testing"

	"pitot/addr"
	"pitot/api"
	"pitot/ipv4"
)

// noise is numbers that look like none, the same ones each time.
type noise uint64

func (x *noise) next() int {
	*x = *x*6364136223846793005 + 1442695040888963407
	return int(*x >> 33)
}

// among is one of few numbers.
func (x *noise) among(l ...int) int { return l[x.next()%len(l)] }

func (x *noise) text(n int) string {
	b := make([]byte, n)
	for i := range b {
		b[i] = byte(x.next())
	}
	return string(b)
}

// last is the latest tick that there is.
const last = 1 << 50

const eight = "abcdefgh"

// part is one of the packet with this ID.
func part(id, off int, more bool, data string) ipv4.Packet {
	return ipv4.Packet{ID: id, Off: off, More: more, TTL: 1, Proto: 17, Src: addr.IP{10, 0, 7, 2}, Dst: addr.IP{224, 224, 1, 2}, Data: data}
}

// key is what the parts of the packet with this ID are told by.
func key(id int) Key {
	return Key{Src: addr.IP{10, 0, 7, 2}, Dst: addr.IP{224, 224, 1, 2}, Proto: 17, ID: id}
}

func keys(ids ...int) []Key {
	var l []Key
	for _, id := range ids {
		l = append(l, key(id))
	}
	return l
}

// brief is a packet, told without all of its Data.
func brief(p ipv4.Packet) []any {
	return []any{p.ID, p.More, p.Off, p.TTL, p.Proto, p.Src, p.Dst, len(p.Data), p.Data[:min(len(p.Data), 20)]}
}

func mustNew(t *testing.T, most, wait int) *Table {
	t.Helper()
	x, wrong := New(most, wait)
	if x == nil || wrong != api.OK {
		t.Fatalf("%d, %d: %d", most, wait, int(wrong))
	}
	return x
}

func wantPass(t *testing.T, x *Table, now int, code api.Errno) {
	t.Helper()
	if wrong := x.Pass(now); wrong != code {
		t.Errorf("%d: %d; want %d", now, int(wrong), int(code))
	}
}

// wantTaken is a part that is put in, and does not make its packet whole.
func wantTaken(t *testing.T, x *Table, now int, p ipv4.Packet) {
	t.Helper()
	wantNoPacket(t, x, now, p, api.OK)
}

func wantNoPacket(t *testing.T, x *Table, now int, p ipv4.Packet, code api.Errno) {
	t.Helper()
	if q, whole, wrong := x.Put(now, p); q != (ipv4.Packet{}) || whole || wrong != code {
		t.Errorf("%d, %v: %v, %v, %d; want %d", now, brief(p), brief(q), whole, int(wrong), int(code))
	}
}

func wantPacket(t *testing.T, x *Table, now int, p, want ipv4.Packet) {
	t.Helper()
	if q, whole, wrong := x.Put(now, p); q != want || !whole || wrong != api.OK {
		t.Errorf("%d, %v: %v, %v, %d; want %v", now, brief(p), brief(q), whole, int(wrong), brief(want))
	}
}

// wantState is whose packets are begun, in order, and how many were given up.
func wantState(t *testing.T, x *Table, dropped int, want ...Key) {
	t.Helper()
	if l := x.Keys(); !slices.Equal(l, want) {
		t.Errorf("%v; want %v", l, want)
	}
	if n := x.Dropped(); n != dropped {
		t.Errorf("%d dropped; want %d", n, dropped)
	}
}

// odd is numbers that are far from those that may be, or next to them once they are cut to fewer bits.
func odd() []int {
	return []int{-1, -2, -64, -1 << 32, math.MinInt, math.MinInt + 1, 1<<50 + 1, 1<<50 + 2, 1 << 51, 1 << 61, math.MaxInt - 1, math.MaxInt}
}

// P9.1, R1: at all numbers next to the edges, and far from them.
func TestNew(t *testing.T) {
	waits := append(odd(), 0, 1, 12500, 1<<31, 1<<32, last-1, last)
	for _, most := range append(odd(), 0, 1, 2, 63, 64, 65, 256, 257, 1<<32+1) {
		for _, wait := range waits {
			x, wrong := New(most, wait)
			may := most >= 1 && most <= 64 && wait >= 0 && wait <= last
			if may && (x == nil || wrong != api.OK) || !may && (x != nil || wrong != api.ErrArg) {
				t.Errorf("%d, %d: %v, %d", most, wait, x != nil, int(wrong))
			}
		}
	}
}

// P9.1: a new table is at the tick 0, and has no packets.
func TestNewTable(t *testing.T) {
	x := mustNew(t, 3, 5)
	wantState(t, x, 0)
	wantPass(t, x, -1, api.ErrTime)
	wantPass(t, x, 0, api.OK)
	wantState(t, x, 0)
}

// P9.1, R1: what a time may be, and that one which may not be leaves the tick as it is.
func TestPass(t *testing.T) {
	x := mustNew(t, 3, 5)
	for _, now := range []int{0, 0, 1, 1, 7, 12500, 1 << 31, 1 << 40, last - 1, last, last} {
		wantPass(t, x, now, api.OK)
		for _, later := range []int{last + 1, last + 2, 1 << 51, 1 << 62, math.MaxInt} {
			wantPass(t, x, later, api.ErrArg)
			wantNoPacket(t, x, later, part(1, 0, false, "whole"), api.ErrArg)
		}
		for _, earlier := range []int{now - 1, now / 2, -1, -1 << 50, math.MinInt} {
			if earlier < now {
				wantPass(t, x, earlier, api.ErrTime)
				wantNoPacket(t, x, earlier, part(1, 0, false, "whole"), api.ErrTime)
			}
		}
		wantPass(t, x, now, api.OK)
		wantState(t, x, 0)
	}
}

// P9.1, P9.2, R1: a time that may not be gives nothing up, and takes up no part.
func TestWrongTimesChangeNothing(t *testing.T) {
	x := mustNew(t, 3, 5)
	wantTaken(t, x, 10, part(1, 0, true, eight))
	for _, now := range []int{9, 0, -1, math.MinInt, last + 1, math.MaxInt} {
		code := api.ErrTime
		if now > last {
			code = api.ErrArg
		}
		wantPass(t, x, now, code)
		wantNoPacket(t, x, now, part(1, 1, false, "x"), code)
		wantNoPacket(t, x, now, part(1, 0, true, eight), code)
		wantNoPacket(t, x, now, part(1, 7, true, ""), code)
		wantNoPacket(t, x, now, part(2, 0, true, eight), code)
		wantNoPacket(t, x, now, part(3, 0, false, ""), code)
		wantState(t, x, 0, key(1))
	}
	wantPacket(t, x, 10, part(1, 1, false, "x"), part(1, 0, false, eight+"x"))
}

// P9.1, R1: of a nil table ErrNil, nothing, 0, whatever the time is.
func TestNilTable(t *testing.T) {
	var x *Table
	for _, now := range append(odd(), 0, 1, last) {
		wantPass(t, x, now, api.ErrNil)
		for _, p := range []ipv4.Packet{{}, part(1, 0, false, "whole"), part(1, 0, true, eight), part(1, 1, false, "x")} {
			wantNoPacket(t, x, now, p, api.ErrNil)
		}
		wantState(t, x, 0)
	}
}

// R1: a table that New did not make has room for none, and panics at nothing.
func TestZeroTable(t *testing.T) {
	x := &Table{}
	wantState(t, x, 0)
	wantNoPacket(t, x, 1, part(1, 0, true, eight), api.ErrFull)
	wantNoPacket(t, x, 1, part(1, 1, false, "x"), api.ErrOrder)
	wantPacket(t, x, 1, part(1, 0, false, "x"), part(1, 0, false, "x"))
	wantPass(t, x, 0, api.ErrTime)
	wantState(t, x, 0)
}

// P9.1, P9.2: what was begun so many ticks ago stays, and one tick later it is given up, by Pass or by Put.
func TestWait(t *testing.T) {
	for _, wait := range []int{0, 1, 5, 12500, 1 << 31, 1<<32 + 1, last - 8} {
		for _, begin := range []int{0, 1, 7} {
			first, behind := part(1, 0, true, eight), part(1, 1, false, "x")
			x := mustNew(t, 3, wait)
			wantTaken(t, x, begin, first)
			wantPass(t, x, begin+wait, api.OK)
			wantState(t, x, 0, key(1))
			wantPacket(t, x, begin+wait, behind, part(1, 0, false, eight+"x"))
			wantState(t, x, 0)

			x = mustNew(t, 3, wait)
			wantTaken(t, x, begin, first)
			wantPass(t, x, begin+wait+1, api.OK)
			wantState(t, x, 1)
			wantNoPacket(t, x, begin+wait+1, behind, api.ErrOrder)
			wantState(t, x, 1)

			x = mustNew(t, 3, wait)
			wantTaken(t, x, begin, first)
			wantNoPacket(t, x, begin+wait+1, behind, api.ErrOrder)
			wantState(t, x, 1)
		}
	}
}

// P9.1: with the longest wait nothing is ever given up.
func TestLongestWait(t *testing.T) {
	x := mustNew(t, 1, last)
	wantTaken(t, x, 0, part(1, 0, true, eight))
	wantPass(t, x, last, api.OK)
	wantPacket(t, x, last, part(1, 1, false, "x"), part(1, 0, false, eight+"x"))
	wantState(t, x, 0)
}

// P9.2: it is the first part from which on is waited, not the one that came last.
func TestWaitFromTheFirst(t *testing.T) {
	x := mustNew(t, 3, 10)
	wantTaken(t, x, 20, part(1, 0, true, eight))
	wantTaken(t, x, 25, part(1, 1, true, eight))
	wantTaken(t, x, 30, part(1, 2, true, eight))
	wantNoPacket(t, x, 31, part(1, 3, false, ""), api.ErrOrder)
	wantState(t, x, 1)
	// One that is begun again is waited for anew.
	wantTaken(t, x, 40, part(1, 0, true, eight))
	wantTaken(t, x, 50, part(1, 0, true, eight))
	wantPass(t, x, 60, api.OK)
	wantState(t, x, 2, key(1))
	wantPass(t, x, 61, api.OK)
	wantState(t, x, 3)
}

// P9.1, P9.3: of several, just those are given up that were begun too long ago, whoever's part comes.
func TestWaitOfSeveral(t *testing.T) {
	for _, put := range []bool{false, true} {
		x := mustNew(t, 64, 10)
		for id := range 10 {
			wantTaken(t, x, 2*(id/2), part(id, 0, true, eight))
		}
		for now := 8; now < 30; now++ {
			if put {
				wantPacket(t, x, now, part(99, 0, false, "whole"), part(99, 0, false, "whole"))
			} else {
				wantPass(t, x, now, api.OK)
			}
			var want []int
			for id := range 10 {
				if now-2*(id/2) <= 10 {
					want = append(want, id)
				}
			}
			wantState(t, x, 10-len(want), keys(want...)...)
		}
	}
}

// P9.2: an error of the part comes behind the Pass, which stays done.
func TestPassAheadOfErrors(t *testing.T) {
	for _, c := range []struct {
		p    ipv4.Packet
		code api.Errno
	}{
		{part(2, 0, true, ""), api.ErrField},
		{part(2, 0, true, strings.Repeat(eight, 1026)), api.ErrLong},
		{part(2, 1, false, ""), api.ErrOrder},
		{part(1, 1, false, "x"), api.ErrOrder},
	} {
		x := mustNew(t, 1, 5)
		wantTaken(t, x, 0, part(1, 0, true, eight))
		wantNoPacket(t, x, 6, c.p, c.code)
		wantState(t, x, 1)
		wantPass(t, x, 5, api.ErrTime)
	}
	x := mustNew(t, 1, 5)
	wantTaken(t, x, 0, part(1, 0, true, eight))
	wantNoPacket(t, x, 5, part(2, 0, true, eight), api.ErrFull)
	wantPass(t, x, 4, api.ErrTime)
	// What is given up by the Pass makes room.
	wantTaken(t, x, 6, part(2, 0, true, eight))
	wantState(t, x, 1, key(2))
}

// P9.2: what is no part is answered as it is, however long, and turns nothing that is begun.
func TestWholeOnes(t *testing.T) {
	x := mustNew(t, 1, 10)
	wholes := []ipv4.Packet{{}, {ID: -1, TTL: 1 << 40, Proto: math.MinInt}}
	for _, long := range []int{0, 1, 7, 8, 9, 8200, 8201, 8208, 65515, 65516, 1 << 20} {
		wholes = append(wholes, part(1, 0, false, strings.Repeat("w", long)), part(2, 0, false, strings.Repeat("w", long)))
	}
	for range 2 {
		for _, p := range wholes {
			wantPacket(t, x, 1, p, p)
		}
		wantState(t, x, 0)
		wantTaken(t, x, 1, part(1, 0, true, eight))
		for _, p := range wholes {
			wantPacket(t, x, 1, p, p)
			wantState(t, x, 0, key(1))
		}
		wantPacket(t, x, 1, part(1, 1, false, "x"), part(1, 0, false, eight+"x"))
	}
}

// P9.2, R1: how many bytes a first part may have, at all lengths next to the edges; ErrField is named ahead of ErrLong.
func TestFirstLengths(t *testing.T) {
	var longs []int
	for long := range 100 {
		longs = append(longs, long, 8150+long, 65500+long)
	}
	for _, long := range append(longs, 1<<20, 1<<20+1) {
		x := mustNew(t, 1, 10)
		p := part(1, 0, true, strings.Repeat("d", long))
		switch {
		case long == 0 || long%8 != 0:
			wantNoPacket(t, x, 1, p, api.ErrField)
			wantState(t, x, 0)
		case long > 8200:
			wantNoPacket(t, x, 1, p, api.ErrLong)
			wantState(t, x, 0)
		default:
			wantTaken(t, x, 1, p)
			wantState(t, x, 0, key(1))
		}
	}
}

// P9.2: a first part gives up what is begun of its Key, whatever is wrong with that part.
func TestBegunAgain(t *testing.T) {
	for _, c := range []struct {
		data string
		code api.Errno
	}{
		{"ABCDEFGH", api.OK}, {eight, api.OK}, {"", api.ErrField}, {"x", api.ErrField}, {eight + "x", api.ErrField},
		{strings.Repeat("x", 8201), api.ErrField}, {strings.Repeat(eight, 1026), api.ErrLong},
	} {
		x := mustNew(t, 3, 10)
		for id := range 3 {
			wantTaken(t, x, 1, part(id, 0, true, eight))
			wantTaken(t, x, 1, part(id, 1, true, eight))
		}
		wantNoPacket(t, x, 2, part(1, 0, true, c.data), c.code)
		if c.code != api.OK {
			wantState(t, x, 1, keys(0, 2)...)
			wantNoPacket(t, x, 2, part(1, 2, false, "x"), api.ErrOrder)
			wantState(t, x, 1, keys(0, 2)...)
		} else {
			wantState(t, x, 1, keys(0, 2, 1)...)
			wantPacket(t, x, 2, part(1, 1, false, "x"), part(1, 0, false, c.data+"x"))
			wantState(t, x, 1, keys(0, 2)...)
		}
		wantPacket(t, x, 2, part(0, 2, false, "x"), part(0, 0, false, eight+eight+"x"))
		wantPacket(t, x, 2, part(2, 2, false, "x"), part(2, 0, false, eight+eight+"x"))
	}
}

// P9.2, R1: as many are begun as there is room for, at all sizes; ErrFull is the last one to be named, and changes nothing.
func TestFull(t *testing.T) {
	for most := 1; most <= 64; most++ {
		x := mustNew(t, most, 10)
		var ids []int
		for id := range most {
			wantTaken(t, x, 1, part(id, 0, true, eight))
			ids = append(ids, id)
		}
		for range 2 {
			wantNoPacket(t, x, 1, part(most, 0, true, eight), api.ErrFull)
			wantNoPacket(t, x, 1, part(most, 0, true, ""), api.ErrField)
			wantNoPacket(t, x, 1, part(most, 0, true, "x"), api.ErrField)
			wantNoPacket(t, x, 1, part(most, 0, true, strings.Repeat(eight, 1026)), api.ErrLong)
			wantNoPacket(t, x, 1, part(most, 1, false, ""), api.ErrOrder)
			wantState(t, x, 0, keys(ids...)...)
		}
		wantFullOneBegunAgain(t, x, most, ids)
	}
}

// wantFullOneBegunAgain is a full table, in which the place of one that is given up, or whole, is free again.
func wantFullOneBegunAgain(t *testing.T, x *Table, most int, ids []int) {
	t.Helper()
	wantTaken(t, x, 1, part(0, 0, true, eight))
	ids = append(slices.Clone(ids[1:]), 0)
	wantState(t, x, 1, keys(ids...)...)
	wantPacket(t, x, 1, part(ids[0], 1, false, "x"), part(ids[0], 0, false, eight+"x"))
	wantTaken(t, x, 1, part(most, 0, true, eight))
	ids = append(slices.Clone(ids[1:]), most)
	wantState(t, x, 1, keys(ids...)...)
	wantNoPacket(t, x, 1, part(ids[0], 2, false, "x"), api.ErrOrder)
	wantTaken(t, x, 1, part(most+1, 0, true, eight))
	wantNoPacket(t, x, 1, part(most+2, 0, true, eight), api.ErrFull)
	wantState(t, x, 2, keys(append(slices.Clone(ids[1:]), most+1)...)...)
}

// P9.2, R1: a part of which nothing is begun, whatever else is wrong with it, changes nothing.
func TestNoneBegun(t *testing.T) {
	x := mustNew(t, 2, 10)
	wantTaken(t, x, 1, part(1, 0, true, eight))
	for _, off := range []int{1, 2, 1025, 8191, 8192, -1, 1 << 61, math.MinInt, math.MaxInt} {
		for _, data := range []string{"", "x", eight, strings.Repeat(eight, 1026)} {
			wantNoPacket(t, x, 1, part(2, off, false, data), api.ErrOrder)
			wantNoPacket(t, x, 1, part(2, off, true, data), api.ErrOrder)
		}
	}
	wantState(t, x, 0, key(1))
	wantPacket(t, x, 1, part(1, 1, false, "x"), part(1, 0, false, eight+"x"))
	// What is whole is not begun any more, and was not given up.
	wantNoPacket(t, x, 1, part(1, 1, false, "x"), api.ErrOrder)
	wantNoPacket(t, x, 1, part(1, 2, true, eight), api.ErrOrder)
	wantState(t, x, 0)
}

// wantGivenUp puts a part behind so many bytes, for which its packet is given up, and no other one.
func wantGivenUp(t *testing.T, bytes int, p ipv4.Packet, code api.Errno) {
	t.Helper()
	x := mustNew(t, 3, 10)
	wantTaken(t, x, 1, part(0, 0, true, eight))
	wantTaken(t, x, 1, part(1, 0, true, strings.Repeat("d", bytes)))
	wantTaken(t, x, 1, part(2, 0, true, eight))
	wantNoPacket(t, x, 1, p, code)
	wantState(t, x, 1, keys(0, 2)...)
	wantNoPacket(t, x, 1, part(1, bytes/8, false, ""), api.ErrOrder)
	wantState(t, x, 1, keys(0, 2)...)
	wantPacket(t, x, 1, part(2, 1, false, "x"), part(2, 0, false, eight+"x"))
	wantPacket(t, x, 1, part(0, 1, false, "x"), part(0, 0, false, eight+"x"))
}

// P9.2, R1: an Off that is not an eighth of what is there, one whose bytes run over to that among them; it is named ahead of what is wrong with Data.
func TestWrongOff(t *testing.T) {
	for _, bytes := range []int{8, 16, 80, 8200} {
		right := bytes / 8
		for _, off := range []int{right - 1, right + 1, right + 8, bytes, right + 8192, right + 65536, right + 1<<32, right + 1<<61, right + 2<<61, right + 3<<61, -right, -1, math.MinInt, math.MaxInt} {
			if off == right || off == 0 {
				continue
			}
			for _, data := range []string{"", "x", eight, strings.Repeat(eight, 1026)} {
				wantGivenUp(t, bytes, part(1, off, false, data), api.ErrOrder)
				wantGivenUp(t, bytes, part(1, off, true, data), api.ErrOrder)
			}
		}
	}
}

// P9.2, R1: lengths that only the last part has; that is named ahead of ErrLong.
func TestBehindLengths(t *testing.T) {
	for long := range 60 {
		data := strings.Repeat("e", long)
		if long == 0 || long%8 != 0 {
			wantGivenUp(t, 16, part(1, 2, true, data), api.ErrField)
			wantGivenUp(t, 8200, part(1, 1025, true, data), api.ErrField)
		} else {
			x := mustNew(t, 1, 10)
			wantTaken(t, x, 1, part(1, 0, true, eight))
			wantTaken(t, x, 1, part(1, 1, true, data))
			wantPacket(t, x, 1, part(1, 1+long/8, false, ""), part(1, 0, false, eight+data))
			wantState(t, x, 0)
		}
		x := mustNew(t, 1, 10)
		wantTaken(t, x, 1, part(1, 0, true, eight))
		wantPacket(t, x, 1, part(1, 1, false, data), part(1, 0, false, eight+data))
		wantState(t, x, 0)
	}
	wantGivenUp(t, 16, part(1, 2, true, strings.Repeat("e", 9001)), api.ErrField)
}

// P9.2, R1: 8200 bytes are not too many, and one more is, wherever the parts meet.
func TestBehindLong(t *testing.T) {
	for _, bytes := range []int{8, 16, 4096, 8184, 8192, 8200} {
		first, rest := strings.Repeat("d", bytes), strings.Repeat("e", 8200-bytes)
		x := mustNew(t, 3, 10)
		wantTaken(t, x, 1, part(1, 0, true, first))
		wantPacket(t, x, 1, part(1, bytes/8, false, rest), part(1, 0, false, first+rest))
		if rest != "" {
			wantTaken(t, x, 1, part(1, 0, true, first))
			wantTaken(t, x, 1, part(1, bytes/8, true, rest))
			wantPacket(t, x, 1, part(1, 1025, false, ""), part(1, 0, false, first+rest))
			wantTaken(t, x, 1, part(1, 0, true, first))
			wantTaken(t, x, 1, part(1, bytes/8, true, rest))
			wantNoPacket(t, x, 1, part(1, 1025, false, "x"), api.ErrLong)
			wantState(t, x, 1)
		}
		for _, more := range []int{1, 7, 8, 9, 65515, 1 << 20} {
			wantGivenUp(t, bytes, part(1, bytes/8, false, rest+strings.Repeat("x", more)), api.ErrLong)
		}
		for _, more := range []int{8, 16, 65528, 1 << 20} {
			wantGivenUp(t, bytes, part(1, bytes/8, true, rest+strings.Repeat("x", more)), api.ErrLong)
		}
	}
}

// P9.2: as many parts as there may be, each as short as it may be.
func TestShortestParts(t *testing.T) {
	x := noise(1)
	table := mustNew(t, 1, 2000)
	data := x.text(8200)
	for i := range 1025 {
		wantTaken(t, table, i, part(1, i, true, data[8*i:8*i+8]))
	}
	wantPacket(t, table, 1025, part(1, 1025, false, ""), part(1, 0, false, data))
	wantState(t, table, 0)
}

// P9.2: the whole packet is the last part with all bytes; what does not tell packets apart may be another one in each part.
func TestLastPartIsThePacket(t *testing.T) {
	x := mustNew(t, 1, 10)
	for i, ttls := range [][3]int{{1, 2, 3}, {3, 2, 1}, {0, 255, 0}, {-1, 1 << 40, math.MinInt}} {
		l := []ipv4.Packet{part(i, 0, true, eight), part(i, 1, true, "ijklmnop"), part(i, 2, false, "qr")}
		for j := range l {
			l[j].TTL = ttls[j]
		}
		wantTaken(t, x, 1, l[0])
		wantTaken(t, x, 1, l[1])
		want := part(i, 0, false, "abcdefghijklmnopqr")
		want.TTL = ttls[2]
		wantPacket(t, x, 1, l[2], want)
	}
	wantState(t, x, 0)
}

// others is a part as one of other packets, each with one thing that tells them apart.
func others(p ipv4.Packet) []ipv4.Packet {
	var l []ipv4.Packet
	for _, turn := range []int{1, -1, 256, 65536, 1 << 32, math.MinInt} {
		a, b := p, p
		a.ID += turn
		b.Proto += turn
		l = append(l, a, b)
	}
	for at := range 4 {
		a, b := p, p
		a.Src[at] ^= 1
		b.Dst[at] ^= 128
		l = append(l, a, b)
	}
	a, b := p, p
	a.Src, a.Dst = p.Dst, p.Src
	b.ID, b.Proto = p.Proto, p.ID
	return append(l, a, b)
}

// P9.2, P9.3: parts are of one packet just if all four are the same; Keys tells them.
func TestKeysApart(t *testing.T) {
	p := part(300, 0, true, eight)
	l := append(others(p), p)
	x := mustNew(t, 64, 10)
	var want []Key
	for _, first := range l {
		want = append(want, Key{Src: first.Src, Dst: first.Dst, Proto: first.Proto, ID: first.ID})
		wantTaken(t, x, 1, first)
		wantState(t, x, 0, want...)
	}
	for i, first := range l {
		behind, whole := first, first
		behind.Off, behind.Data = 1, string(rune('A'+i))+"       "
		whole.More, whole.Off, whole.Data = false, 0, eight+behind.Data+"."
		wantTaken(t, x, 1, behind)
		behind.More, behind.Off, behind.Data = false, 2, "."
		wantPacket(t, x, 1, behind, whole)
		wantState(t, x, 0, want[i+1:]...)
	}
	for _, o := range others(p) {
		x := mustNew(t, 64, 10)
		wantTaken(t, x, 1, p)
		o.More, o.Off, o.Data = false, 1, "x"
		wantNoPacket(t, x, 1, o, api.ErrOrder)
		wantState(t, x, 0, key(300))
	}
}

// P9.3: in the order in which they were begun, whatever their Keys and ticks are, and whichever of them end.
func TestKeysOrder(t *testing.T) {
	x := mustNew(t, 64, 10)
	ids := []int{50, 3, 65535, 0, 7, 49, 8, 1}
	for i, id := range ids {
		wantTaken(t, x, i/3, part(id, 0, true, eight))
	}
	wantState(t, x, 0, keys(ids...)...)
	for _, id := range []int{1, 0, 50} { // to go on is not to begin
		wantTaken(t, x, 3, part(id, 1, true, eight))
	}
	wantState(t, x, 0, keys(ids...)...)
	wantPacket(t, x, 3, part(0, 2, false, ""), part(0, 0, false, eight+eight))
	wantState(t, x, 0, keys(50, 3, 65535, 7, 49, 8, 1)...)
	wantTaken(t, x, 4, part(3, 0, true, eight))
	wantState(t, x, 1, keys(50, 65535, 7, 49, 8, 1, 3)...)
	wantNoPacket(t, x, 4, part(49, 3, true, eight), api.ErrOrder)
	wantState(t, x, 2, keys(50, 65535, 7, 8, 1, 3)...)
	wantTaken(t, x, 4, part(0, 0, true, eight))
	wantPass(t, x, 12, api.OK) // 8 and 1 were begun at 2, 7 at 1, 50 and 65535 at 0
	wantState(t, x, 5, keys(8, 1, 3, 0)...)
}

// What the chapter's examples say.
func TestExamples(t *testing.T) {
	x := mustNew(t, 1, 5)
	wantTaken(t, x, 1, part(1, 0, true, eight))
	wantPacket(t, x, 2, part(1, 1, false, "i"), part(1, 0, false, eight+"i"))
	wantTaken(t, x, 2, part(1, 0, true, eight))
	wantNoPacket(t, x, 8, part(1, 1, false, "i"), api.ErrOrder)
	wantState(t, x, 1)
}
