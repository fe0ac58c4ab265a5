package reasm

import (
	"go/ast"
	"go/parser"
	"go/token"
	"slices"
	"strings"
	"testing"

	"pitot/api"
	"pitot/frag"
	"pitot/ipv4"
)

// many is so many packets with unlike Keys, each with bytes that only it has.
func (x *noise) many(count int) []ipv4.Packet {
	var l []ipv4.Packet
	for i := range count {
		p := part(i/8, 0, false, strings.Repeat(string(rune('0'+i)), x.among(8, 26, 100, 1480, 3000, 8199, 8200)))
		p.Src[3], p.Dst[3], p.Proto = byte(i&1), byte(i>>1&1), i>>2&1
		l = append(l, p)
	}
	return l
}

// P9.4: the parts of as many packets as there is room for come out as these, however they are mixed.
func TestMixed(t *testing.T) {
	x := noise(2)
	for range 60 {
		most := x.among(1, 2, 5, 64)
		packets := x.many(most)
		var left [][]ipv4.Packet
		for _, p := range packets {
			l, wrong := frag.Split(p, x.among(64, 200, 1518))
			if wrong != api.OK {
				t.Fatal(int(wrong))
			}
			left = append(left, l)
		}
		table := mustNew(t, most, 1<<20)
		for now := 0; slices.ContainsFunc(left, func(l []ipv4.Packet) bool { return len(l) > 0 }); now++ {
			i := x.next() % most
			if len(left[i]) == 0 {
				continue
			}
			p := left[i][0]
			left[i] = left[i][1:]
			if len(left[i]) == 0 {
				wantPacket(t, table, now, p, packets[i])
			} else {
				wantTaken(t, table, now, p)
			}
		}
		wantState(t, table, 0)
	}
}

// P9.4: parts of others that are wrong in every way leave a packet whole.
func TestAmongWrongOnes(t *testing.T) {
	x := noise(3)
	for range 200 {
		p := part(7, 0, false, x.text(x.among(26, 100, 500)))
		l, wrong := frag.Split(p, 64)
		if wrong != api.OK {
			t.Fatal(int(wrong))
		}
		table := mustNew(t, 20, 1<<20)
		for i, piece := range l {
			if i == len(l)-1 {
				wantPacket(t, table, 20*i, piece, p)
				break
			}
			wantTaken(t, table, 20*i, piece)
			for range x.next() % 20 {
				q := part(x.among(8, 9), x.among(0, 0, 1, 2, 3, -1), x.next()%2 == 0, x.text(x.among(0, 1, 8, 16, 24, 8200, 8208)))
				table.Put(20*i+x.next()%2, q) // a time that goes back is wrong, too
			}
		}
		if slices.Contains(table.Keys(), key(7)) {
			t.Error(table.Keys())
		}
	}
}

// P9.4: parts of one Key that come from two packets are put together only in the order of one.
func TestNeverOfTwo(t *testing.T) {
	first, behind := strings.Repeat("a", 24), strings.Repeat("b", 24)
	x := mustNew(t, 4, 10)
	wantTaken(t, x, 1, part(1, 0, true, first))
	wantTaken(t, x, 1, part(1, 0, true, behind))
	wantState(t, x, 1, key(1))
	wantTaken(t, x, 1, part(1, 3, true, behind))
	wantPacket(t, x, 1, part(1, 6, false, "b"), part(1, 0, false, strings.Repeat("b", 49)))
	// The rest of one that was given up is put behind none.
	wantNoPacket(t, x, 1, part(1, 3, true, first), api.ErrOrder)
	wantNoPacket(t, x, 1, part(1, 6, false, "a"), api.ErrOrder)
	wantState(t, x, 1)
}

// slow is what the chapter's words say of a table, with nothing that hastens it.
type slow struct {
	most, wait, now, dropped int
	l                        []slowPacket
}

type slowPacket struct {
	key  Key
	at   int
	data string
}

func (s *slow) find(k Key) int {
	return slices.IndexFunc(s.l, func(x slowPacket) bool { return x.key == k })
}

func (s *slow) drop(i int) {
	s.l = slices.Concat(s.l[:i], s.l[i+1:])
	s.dropped++
}

func (s *slow) pass(now int) api.Errno {
	if now > 1125899906842624 {
		return api.ErrArg
	}
	if now < s.now {
		return api.ErrTime
	}
	s.now = now
	for i := len(s.l) - 1; i >= 0; i-- {
		if now-s.l[i].at > s.wait {
			s.drop(i)
		}
	}
	return api.OK
}

func (s *slow) put(now int, p ipv4.Packet) (ipv4.Packet, bool, api.Errno) {
	none := ipv4.Packet{}
	if e := s.pass(now); e != api.OK {
		return none, false, e
	}
	i := s.find(Key{p.Src, p.Dst, p.Proto, p.ID})
	ragged := len(p.Data) == 0 || len(p.Data)%8 != 0
	switch {
	case !p.More && p.Off == 0:
		return p, true, api.OK
	case p.Off == 0:
		if i >= 0 {
			s.drop(i)
		}
		if ragged {
			return none, false, api.ErrField
		}
		if len(p.Data) > 8200 {
			return none, false, api.ErrLong
		}
		if len(s.l) == s.most {
			return none, false, api.ErrFull
		}
		s.l = append(s.l, slowPacket{Key{p.Src, p.Dst, p.Proto, p.ID}, now, p.Data})
		return none, false, api.OK
	case i < 0:
		return none, false, api.ErrOrder
	}
	return s.behind(i, p, ragged)
}

func (s *slow) behind(i int, p ipv4.Packet, ragged bool) (ipv4.Packet, bool, api.Errno) {
	e, data := api.OK, s.l[i].data+p.Data
	if len(data) > 8200 {
		e = api.ErrLong
	}
	if p.More && ragged {
		e = api.ErrField
	}
	if float64(p.Off) != float64(len(s.l[i].data))/8 {
		e = api.ErrOrder
	}
	if e != api.OK {
		s.drop(i)
		return ipv4.Packet{}, false, e
	}
	if p.More {
		s.l[i].data = data
		return ipv4.Packet{}, false, api.OK
	}
	s.l = slices.Concat(s.l[:i], s.l[i+1:])
	return ipv4.Packet{ID: p.ID, TTL: p.TTL, Proto: p.Proto, Src: p.Src, Dst: p.Dst, Data: data}, true, api.OK
}

// nextPart is a part that goes on with one that is begun, or nearly so.
func (x *noise) nextPart(s *slow) ipv4.Packet {
	p := part(x.next()%6, 0, x.next()%4 != 0, x.text(x.among(0, 1, 8, 8, 16, 16, 24, 4096, 8200, 8208)))
	p.TTL, p.Src[0] = x.next()%4, byte(x.next()%2)
	if i := s.find(Key{p.Src, p.Dst, p.Proto, p.ID}); i >= 0 && x.next()%8 != 0 {
		p.Off = len(s.l[i].data) / 8
	}
	if x.next()%16 == 0 {
		p.Off += x.among(1, -1, 1<<61)
	}
	return p
}

// P9.1 to P9.3, R1, R3: whatever is put in, and whenever, is answered as the chapter's words say, call by call.
func TestAsTheWordsSay(t *testing.T) {
	x := noise(4)
	times := map[api.Errno]int{}
	wholes := 0
	for range 300 {
		s := &slow{most: x.among(1, 2, 3, 5, 64), wait: x.among(0, 1, 5, 20, 100)}
		table := mustNew(t, s.most, s.wait)
		for range 200 {
			now := s.now + x.among(0, 0, 0, 0, 1, 1, 2, s.wait, s.wait+1, -1)
			if x.next()%100 == 0 {
				now = 1125899906842624 + x.among(1, 2)
			}
			if x.next()%10 == 0 {
				wantPass(t, table, now, s.pass(now))
			} else {
				p := x.nextPart(s)
				want, whole, code := s.put(now, p)
				times[code]++
				if whole && len(want.Data) > len(p.Data) {
					wholes++
				}
				if q, is, wrong := table.Put(now, p); q != want || is != whole || wrong != code {
					t.Fatalf("%d, %v: %v, %v, %d; want %v, %v, %d", now, brief(p), brief(q), is, int(wrong), brief(want), whole, int(code))
				}
			}
			var keys []Key
			for _, b := range s.l {
				keys = append(keys, b.key)
			}
			wantState(t, table, s.dropped, keys...)
		}
	}
	for _, e := range []api.Errno{api.OK, api.ErrArg, api.ErrTime, api.ErrField, api.ErrOrder, api.ErrLong, api.ErrFull} {
		if times[e] < 300 {
			t.Error("few of", int(e), times[e])
		}
	}
	if wholes < 300 {
		t.Error("few were put together:", wholes)
	}
}

// R2: what Keys answers is the caller's, with what stands behind its length.
func TestKeysAreTheCallers(t *testing.T) {
	x := mustNew(t, 8, 10)
	for id := range 3 {
		wantTaken(t, x, 1, part(id, 0, true, eight))
	}
	l := x.Keys()
	clear(l[:cap(l)])
	_ = append(l[:1], Key{ID: 9}, Key{ID: 9})
	wantState(t, x, 0, keys(0, 1, 2)...)
	kept := x.Keys()
	wantPacket(t, x, 1, part(0, 1, false, ""), part(0, 0, false, eight))
	wantTaken(t, x, 1, part(3, 0, true, eight))
	wantTaken(t, x, 1, part(1, 0, true, eight))
	if !slices.Equal(kept, keys(0, 1, 2)) {
		t.Error(kept)
	}
	wantState(t, x, 1, keys(2, 3, 1)...)
}

// R2, R3: packets that were answered stay, and tables know nothing of each other.
func TestTablesAlone(t *testing.T) {
	a, b := mustNew(t, 1, 10), mustNew(t, 1, 10)
	wantTaken(t, a, 5, part(1, 0, true, eight))
	wantNoPacket(t, b, 0, part(1, 1, false, "x"), api.ErrOrder)
	wantTaken(t, b, 0, part(1, 0, true, "ABCDEFGH"))
	wantPass(t, b, 11, api.OK)
	wantState(t, a, 0, key(1))
	wantState(t, b, 1)
	p, _, _ := a.Put(5, part(1, 1, false, "x"))
	for range 3 {
		wantTaken(t, a, 6, part(1, 0, true, "ABCDEFGH"))
		wantPacket(t, a, 6, part(1, 1, false, "X"), part(1, 0, false, "ABCDEFGHX"))
	}
	if p != part(1, 0, false, eight+"x") {
		t.Error(brief(p))
	}
	wantState(t, a, 0)
}

// The ways of the layer: packets stand in a map whose keys are structs with arrays, and are deleted from it.
func TestWays(t *testing.T) {
	file, err := parser.ParseFile(token.NewFileSet(), "reasm.go", nil, 0)
	if err != nil {
		t.Fatal(err)
	}
	maps, deletes := 0, 0
	ast.Inspect(file, func(n ast.Node) bool {
		switch x := n.(type) {
		case *ast.MapType:
			if name, ok := x.Key.(*ast.Ident); ok && name.Name == "Key" {
				maps++
			}
		case *ast.CallExpr:
			if name, ok := x.Fun.(*ast.Ident); ok && name.Name == "delete" {
				deletes++
			}
		}
		return true
	})
	if maps == 0 || deletes == 0 {
		t.Error("maps by Key, deletes:", maps, deletes)
	}
}
