package image

import (
	"encoding/binary"
	"encoding/hex"
	"fmt"
	"hash/crc32"
	"math"
	"slices"
	"strconv"
	"strings"
	"testing"

	"pitot/api"
	"pitot/config"
)

// whole is a network that may be, with two of each kind at least, and no two numbers of one alike where they need not be.
func whole() api.Config {
	return api.Config{
		Hosts: 5,
		Parts: []int{4, 0, 3},
		Major: 0x01020304,
		Wins:  []api.Window{{Part: 2, Begin: 0x010203, Long: 0x040506}, {Part: 1, Begin: 0, Long: 0x01020304}},
		VLs: []api.VL{
			{ID: 0x0102, Host: 4, Bag: 5, Smax: 100, High: true, Subs: 3, Skew: 0x0a0b0c, To: []int{0, 1, 3}},
			{ID: 0xfffe, Host: 0, Bag: 7, Smax: 1518, Subs: 4, Skew: 1 << 30, To: []int{4}},
		},
		Ports: []api.Port{
			{ID: 7, Host: 0, Part: 1, Kind: api.Sampling, VL: 0x0102, UDP: 0x090a, Size: 53, Fresh: 0x0102030405},
			{ID: 0x08090a0b, Host: 4, Part: 0, Kind: api.Queuing, Out: true, VL: 0x0102, Sub: 2, UDP: 0xffff, Size: 8192, Depth: 64},
			{ID: 0xfffffffe, Host: 4, Part: 0, Kind: api.Queuing, VL: 0xfffe, UDP: 8, Size: 300, Depth: 1},
		},
	}
}

// wholeHex is the whole network's image as the chapter's words go, but for its sum.
const wholeHex = "41464458" + "0001" + "0005" + "0003" + "000400000003" + "01020304" +
	"0002" + "0002" + "00010203" + "00040506" + "0001" + "00000000" + "01020304" +
	"0002" + "0102" + "0004" + "5b" + "0064" + "000a0b0c" + "0003" + "000000010003" +
	"fffe" + "0000" + "74" + "05ee" + "40000000" + "0001" + "0004" +
	"0003" + "00000007" + "0000" + "0001" + "40" + "0102" + "090a" + "0035" + "0000" + "00000001" + "02030405" +
	"08090a0b" + "0004" + "0000" + "a2" + "0102" + "ffff" + "2000" + "0040" + "0000000000000000" +
	"fffffffe" + "0004" + "0000" + "80" + "fffe" + "0008" + "012c" + "0001" + "0000000000000000"

// turned is the whole network with one turn.
func turned(turn func(c *api.Config)) api.Config {
	c := whole()
	turn(&c)
	return c
}

// copied is a network that shares nothing with another one.
func copied(c api.Config) api.Config {
	c.Parts, c.Wins, c.VLs, c.Ports = slices.Clone(c.Parts), slices.Clone(c.Wins), slices.Clone(c.VLs), slices.Clone(c.Ports)
	for i := range c.VLs {
		c.VLs[i].To = slices.Clone(c.VLs[i].To)
	}
	return c
}

// told is a network as a text, in which a list without elements is one, nil or not.
func told(c api.Config) string { return fmt.Sprintf("%+v", c) }

func u16(b []byte, l ...int) []byte {
	for _, n := range l {
		b = binary.BigEndian.AppendUint16(b, uint16(n))
	}
	return b
}

func u32(b []byte, l ...int) []byte {
	for _, n := range l {
		b = binary.BigEndian.AppendUint32(b, uint32(n))
	}
	return b
}

// plain is what an image of any network has ahead of its sum, as the chapter's words go, with its numbers cut to their bytes.
func plain(c api.Config) string {
	flag := map[bool]int{true: 1}
	b := u16([]byte("AFDX"), 1, c.Hosts, len(c.Parts))
	b = u32(u16(b, c.Parts...), c.Major)
	b = u16(b, len(c.Wins))
	for _, w := range c.Wins {
		b = u32(u16(b, w.Part), w.Begin, w.Long)
	}
	b = u16(b, len(c.VLs))
	for _, v := range c.VLs {
		b = append(u16(b, v.ID, v.Host), byte(v.Bag*16+flag[v.High]*8+v.Subs))
		b = u16(u32(u16(b, v.Smax), v.Skew), len(v.To))
		b = u16(b, v.To...)
	}
	b = u16(b, len(c.Ports))
	for _, p := range c.Ports {
		b = append(u16(u32(b, p.ID), p.Host, p.Part), byte(p.Kind*64+flag[p.Out]*32+p.Sub))
		b = binary.BigEndian.AppendUint64(u16(b, p.VL, p.UDP, p.Size, p.Depth), uint64(p.Fresh))
	}
	return string(b)
}

// sealed is a text with its check sum behind.
func sealed(s string) string {
	return string(binary.LittleEndian.AppendUint32([]byte(s), crc32.ChecksumIEEE([]byte(s))))
}

// wantImage is a network that has this image, of which it is loaded again.
func wantImage(t *testing.T, name any, c api.Config, want string) {
	t.Helper()
	if s, e := Encode(c); s != want || e != api.OK {
		t.Errorf("%v: %x, %d; want %x", name, s, int(e), want)
	}
	if d, e := Load(want); told(d) != told(c) || e != api.OK {
		t.Errorf("%v: %+v, %d; want %+v", name, d, int(e), c)
	}
}

func wantNoImage(t *testing.T, name any, c api.Config, code api.Errno) {
	t.Helper()
	if s, e := Encode(c); s != "" || e != code {
		t.Errorf("%v: %x, %d; want %d", name, s, int(e), int(code))
	}
}

func wantNoNetwork(t *testing.T, name any, s string, code api.Errno) {
	t.Helper()
	if c, e := Load(s); told(c) != told(api.Config{}) || e != code {
		t.Errorf("%v: %+v, %d; want %d", name, c, int(e), int(code))
	}
}

// wantRefused is a network that neither has an image, nor is loaded of what would be its image.
func wantRefused(t *testing.T, name any, c api.Config, code api.Errno) {
	t.Helper()
	wantNoImage(t, name, c, code)
	wantNoNetwork(t, name, sealed(plain(c)), code)
}

// The example of the chapter: the least network.
func TestExample(t *testing.T) {
	s, e := Encode(api.Config{Hosts: 1, Major: 1})
	if len(s) != 24 || e != api.OK || hex.EncodeToString([]byte(s[:20])) != "4146445800010001000000000001000000000000" {
		t.Errorf("%x, %d", s, int(e))
	}
	wantImage(t, "least", api.Config{Hosts: 1, Major: 1}, s)
	empty := api.Config{Hosts: 1, Major: 1, Parts: []int{}, Wins: []api.Window{}, VLs: []api.VL{}, Ports: []api.Port{}}
	wantImage(t, "empty lists", empty, s)
}

// P11.1, P11.2: bytes that are known.
func TestKnownBytes(t *testing.T) {
	b, err := hex.DecodeString(wholeHex)
	if err != nil || plain(whole()) != string(b) {
		t.Fatalf("%x, %v", plain(whole()), err)
	}
	wantImage(t, "whole", whole(), sealed(string(b)))
}

// P11.1, P11.2: each number, from the least to the greatest that may be, and some between.
func TestFields(t *testing.T) {
	for name, x := range map[string]struct {
		put func(c *api.Config, n int)
		l   []int
	}{
		"Hosts":       {func(c *api.Config, n int) { c.Hosts = n }, []int{5, 6, 63, 64}},
		"Part's host": {func(c *api.Config, n int) { c.Parts[2] = n }, []int{1, 2, 3, 4}},
		"Major":       {func(c *api.Config, n int) { c.Major = n }, []int{0x01020304, 0x01020305, 1<<30 - 1, 1 << 30}},
		"Win's Part":  {func(c *api.Config, n int) { c.Wins[0].Part = n }, []int{0, 2}},
		"Begin":       {func(c *api.Config, n int) { c.Wins[0].Begin = n }, []int{0, 1, 255, 256, 65535, 65536, 1<<24 - 1 - 0x040506}},
		"Long":        {func(c *api.Config, n int) { c.Wins[0].Long = n }, []int{1, 255, 256, 65535, 65536, 0x01010101}},
		"VL's ID":     {func(c *api.Config, n int) { c.VLs[1].ID, c.Ports[2].VL = n, n }, []int{0x0103, 0x0200, 0x7fff, 0x8000, 0xffff}},
		"VL's Host":   {func(c *api.Config, n int) { c.VLs[1].Host = n }, []int{0, 1, 2, 3}},
		"Bag":         {func(c *api.Config, n int) { c.VLs[0].Bag = n }, []int{0, 1, 2, 3, 4, 5, 6, 7}},
		"Subs":        {func(c *api.Config, n int) { c.VLs[1].Subs = n }, []int{1, 2, 3, 4}},
		"Smax":        {func(c *api.Config, n int) { c.VLs[1].Smax = n }, []int{64, 255, 256, 1517, 1518}},
		"Skew":        {func(c *api.Config, n int) { c.VLs[0].Skew = n }, []int{0, 1, 255, 256, 65535, 65536, 1<<30 - 1, 1 << 30}},
		"To":          {func(c *api.Config, n int) { c.VLs[0].To[1] = n }, []int{1, 2}},
		"Port's ID":   {func(c *api.Config, n int) { c.Ports[2].ID = n }, []int{0x08090a0c, 1<<31 - 1, 1 << 31, 1<<32 - 2, 1<<32 - 1}},
		"first ID":    {func(c *api.Config, n int) { c.Ports[0].ID = n }, []int{1, 255, 256, 65535, 65536, 1<<24 - 1, 1 << 24}},
		"Sub":         {func(c *api.Config, n int) { c.Ports[1].Sub = n }, []int{0, 1, 2}},
		"UDP":         {func(c *api.Config, n int) { c.Ports[0].UDP = n }, []int{0, 1, 255, 256, 65535}},
		"Size":        {func(c *api.Config, n int) { c.Ports[1].Size = n }, []int{1, 255, 256, 8191, 8192}},
		"Depth":       {func(c *api.Config, n int) { c.Ports[1].Depth = n }, []int{1, 2, 63, 64}},
		"Fresh":       {func(c *api.Config, n int) { c.Ports[0].Fresh = n }, []int{1, 255, 256, 1<<31 - 1, 1 << 31, 1<<32 - 1, 1 << 32, 1<<32 + 1, 1<<39 + 5, 1<<40 - 1, 1 << 40}},
	} {
		for _, n := range x.l {
			c := turned(func(c *api.Config) { x.put(c, n) })
			wantImage(t, []any{name, n}, c, sealed(plain(c)))
		}
	}
}

// P11.1, P11.2: what is or is not, each beside all of the other ones of its byte.
func TestFlags(t *testing.T) {
	for _, high := range []bool{false, true} {
		for bag := range 8 {
			for subs := 3; subs <= 4; subs++ {
				c := turned(func(c *api.Config) { c.VLs[0].High, c.VLs[0].Bag, c.VLs[0].Subs = high, bag, subs })
				wantImage(t, []any{high, bag, subs}, c, sealed(plain(c)))
			}
		}
	}
	for _, kind := range []int{api.Sampling, api.Queuing} {
		for sub := range 3 {
			p := api.Port{ID: 9, Host: 4, Kind: kind, Out: true, VL: 0x0102, Sub: sub, Size: 53, Depth: kind - 1}
			c := turned(func(c *api.Config) { c.Ports = []api.Port{p} })
			wantImage(t, p, c, sealed(plain(c)))
		}
		p := api.Port{ID: 9, Host: 0, Part: 1, Kind: kind, VL: 0x0102, Size: 53, Depth: kind - 1, Fresh: 2 - kind}
		c := turned(func(c *api.Config) { c.Ports = []api.Port{p} })
		wantImage(t, p, c, sealed(plain(c)))
	}
}

// most is a network with as many of all as may be.
func most() api.Config {
	c := api.Config{Hosts: 64, Major: 1 << 30}
	for i := range 64 {
		c.Parts = append(c.Parts, 63-i)
	}
	for i := range 256 {
		c.Wins = append(c.Wins, api.Window{Part: i % 64, Begin: i << 22, Long: 1 << 22})
		v := api.VL{ID: 65280 + i, Host: i / 4, Bag: i % 8, Smax: 64 + i, High: i%3 == 0, Subs: 1 + i%4, Skew: i << 22}
		for to := range 64 {
			if to != v.Host {
				v.To = append(v.To, to)
			}
		}
		c.VLs = append(c.VLs, v)
		c.Ports = append(c.Ports,
			api.Port{ID: 1<<32 - 512 + 2*i, Host: v.Host, Part: 63 - v.Host, Kind: api.Queuing, Out: true, VL: v.ID, Sub: i % v.Subs, UDP: i, Size: 8192, Depth: 64},
			api.Port{ID: 1<<32 - 511 + 2*i, Host: v.To[i%63], Part: 63 - v.To[i%63], Kind: api.Sampling, VL: v.ID, UDP: i, Size: 17, Fresh: 1<<40 - i})
	}
	return c
}

// P11.1, P11.2: as many of all as may be.
func TestMost(t *testing.T) {
	c := most()
	if _, e := config.Check(c); e != api.OK {
		t.Fatal(int(e))
	}
	wantImage(t, "most", c, sealed(plain(c)))
}

// spoilt is networks that may not be, in the order in which Check looks at them, and its error.
func spoilt() []spoil {
	return []spoil{
		{"Hosts 0", api.ErrArg, func(c *api.Config) { c.Hosts = 0 }},
		{"Hosts 65", api.ErrArg, func(c *api.Config) { c.Hosts = 65 }},
		{"a partition's host", api.ErrArg, func(c *api.Config) { c.Parts[2] = 5 }},
		{"65 partitions", api.ErrArg, func(c *api.Config) { c.Parts = append(c.Parts, make([]int, 62)...) }},
		{"Major 0", api.ErrArg, func(c *api.Config) { c.Major = 0 }},
		{"Major", api.ErrArg, func(c *api.Config) { c.Major = 1<<30 + 1 }},
		{"a window's Part", api.ErrArg, func(c *api.Config) { c.Wins[0].Part = 3 }},
		{"a window's Long 0", api.ErrArg, func(c *api.Config) { c.Wins[0].Long = 0 }},
		{"a window's Long", api.ErrArg, func(c *api.Config) { c.Wins[1].Long++ }},
		{"a window's Begin", api.ErrArg, func(c *api.Config) { c.Wins[1].Begin = 1<<32 - 1 }},
		{"257 windows", api.ErrArg, func(c *api.Config) { c.Wins = moreWindows() }},
		{"windows that overlap", api.ErrOrder, func(c *api.Config) { c.Wins[0].Part = 1 }},
		{"a link's ID 0", api.ErrArg, func(c *api.Config) { c.VLs[0].ID = 0 }},
		{"a link's Host", api.ErrArg, func(c *api.Config) { c.VLs[0].Host = 5 }},
		{"a link's Bag", api.ErrArg, func(c *api.Config) { c.VLs[0].Bag = 8 }},
		{"a link's greatest Bag", api.ErrArg, func(c *api.Config) { c.VLs[0].Bag = 15 }},
		{"a link's Smax 63", api.ErrArg, func(c *api.Config) { c.VLs[1].Smax = 63 }},
		{"a link's Smax 1519", api.ErrArg, func(c *api.Config) { c.VLs[1].Smax = 1519 }},
		{"a link's Subs 0", api.ErrArg, func(c *api.Config) { c.VLs[1].Subs = 0 }},
		{"a link's Subs 5", api.ErrArg, func(c *api.Config) { c.VLs[1].Subs = 5 }},
		{"a link's Skew", api.ErrArg, func(c *api.Config) { c.VLs[1].Skew++ }},
		{"a link to nowhere", api.ErrArg, func(c *api.Config) { c.VLs[1].To = nil }},
		{"links that do not rise", api.ErrOrder, func(c *api.Config) { c.VLs[1].ID = 0x0102 }},
		{"To that does not rise", api.ErrOrder, func(c *api.Config) { c.VLs[0].To[1] = 0 }},
		{"To that is none", api.ErrNone, func(c *api.Config) { c.VLs[1].To[0] = 5 }},
		{"To that is its Host", api.ErrNone, func(c *api.Config) { c.VLs[1].To[0] = 0 }},
		{"a port's ID 0", api.ErrArg, func(c *api.Config) { c.Ports[0].ID = 0 }},
		{"a port's Kind 0", api.ErrArg, func(c *api.Config) { c.Ports[0].Kind = 0 }},
		{"a port's Kind 3", api.ErrArg, func(c *api.Config) { c.Ports[0].Kind = 3 }},
		{"a port's Part", api.ErrArg, func(c *api.Config) { c.Ports[0].Part = 3 }},
		{"a port's Size 0", api.ErrArg, func(c *api.Config) { c.Ports[1].Size = 0 }},
		{"a port's Size", api.ErrArg, func(c *api.Config) { c.Ports[1].Size = 8193 }},
		{"ports that do not rise", api.ErrOrder, func(c *api.Config) { c.Ports[2].ID = 0x08090a0b }},
		{"a port's Host", api.ErrNone, func(c *api.Config) { c.Ports[0].Host = 1 }},
		{"a port's link", api.ErrNone, func(c *api.Config) { c.Ports[0].VL = 1 }},
		{"a port's way", api.ErrNone, func(c *api.Config) { c.Ports[0].Out = true }},
		{"a port's other way", api.ErrNone, func(c *api.Config) { c.Ports[1].Out, c.Ports[1].Sub = false, 0 }},
		{"a port's Sub", api.ErrArg, func(c *api.Config) { c.Ports[1].Sub = 3 }},
		{"a port's greatest Sub", api.ErrArg, func(c *api.Config) { c.Ports[1].Sub = 31 }},
		{"a Sub of one in", api.ErrArg, func(c *api.Config) { c.Ports[0].Sub = 1 }},
		{"a Depth 0", api.ErrArg, func(c *api.Config) { c.Ports[1].Depth = 0 }},
		{"a Depth", api.ErrArg, func(c *api.Config) { c.Ports[1].Depth = 65 }},
		{"a Fresh of Queuing", api.ErrArg, func(c *api.Config) { c.Ports[1].Fresh = 1 }},
		{"a Fresh 0", api.ErrArg, func(c *api.Config) { c.Ports[0].Fresh = 0 }},
		{"a Depth of Sampling", api.ErrArg, func(c *api.Config) { c.Ports[0].Depth = 1 }},
		{"a message of two frames", api.ErrLong, func(c *api.Config) { c.Ports[0].Size = 54 }},
		{"a port twice", api.ErrTwice, func(c *api.Config) { c.Ports[1] = c.Ports[0]; c.Ports[1].ID++ }},
		{"a host that sends too much", api.ErrRate, func(c *api.Config) { c.VLs = append(c.VLs[:1], moreLinks()...); c.Ports = nil }},
	}
}

// spoil is a turn by which a network may not be any more.
type spoil struct {
	name string
	code api.Errno
	turn func(c *api.Config)
}

func moreWindows() []api.Window {
	var l []api.Window
	for i := range 257 {
		l = append(l, api.Window{Part: 1, Begin: i, Long: 1})
	}
	return l
}

func moreLinks() []api.VL {
	var l []api.VL
	for i := range 4 {
		l = append(l, api.VL{ID: 1000 + i, Host: 1, Smax: 1518, Subs: 1, To: []int{0}})
	}
	return l
}

// P11.1, P11.2: Check's error, of what is handed in and of what is read.
func TestMayNotBe(t *testing.T) {
	for _, x := range spoilt() {
		c := turned(x.turn)
		if _, e := config.Check(c); e != x.code {
			t.Fatalf("%s: %d", x.name, int(e))
		}
		wantRefused(t, x.name, c, x.code)
	}
}

// P11.1: numbers that have no bytes at all, which Check tells.
func TestNoBytes(t *testing.T) {
	for _, n := range []int{-1, 1 << 16, 1<<16 + 1, 1 << 32, 1<<32 + 1, math.MinInt, math.MaxInt} {
		for name, turn := range map[string]func(c *api.Config){
			"Hosts":     func(c *api.Config) { c.Hosts = n },
			"Part":      func(c *api.Config) { c.Parts[0] = n },
			"VL's ID":   func(c *api.Config) { c.VLs[1].ID = n },
			"VL's Host": func(c *api.Config) { c.VLs[0].Host = n },
			"Bag":       func(c *api.Config) { c.VLs[0].Bag = n },
			"Smax":      func(c *api.Config) { c.VLs[0].Smax = n },
			"Subs":      func(c *api.Config) { c.VLs[0].Subs = n },
			"Win":       func(c *api.Config) { c.Wins[0].Part = n },
			"Kind":      func(c *api.Config) { c.Ports[0].Kind = n },
			"UDP":       func(c *api.Config) { c.Ports[0].UDP = n },
			"Size":      func(c *api.Config) { c.Ports[0].Size = n },
			"Depth":     func(c *api.Config) { c.Ports[0].Depth = n },
			"Sub":       func(c *api.Config) { c.Ports[0].Sub = n },
		} {
			wantNoImage(t, []any{name, n}, turned(turn), api.ErrArg)
		}
		wantNoImage(t, n, turned(func(c *api.Config) { c.VLs[1].To[0] = n }), api.ErrNone)
	}
	for _, n := range []int{-1, 1<<40 + 1, 1 << 62, math.MinInt, math.MaxInt} {
		wantNoImage(t, n, turned(func(c *api.Config) { c.Ports[0].Fresh = n }), api.ErrArg)
		wantNoImage(t, n, turned(func(c *api.Config) { c.Major = n }), api.ErrArg)
		wantNoImage(t, n, turned(func(c *api.Config) { c.Wins[0].Begin = n }), api.ErrArg)
		wantNoImage(t, n, turned(func(c *api.Config) { c.Wins[0].Long = n }), api.ErrArg)
		wantNoImage(t, n, turned(func(c *api.Config) { c.VLs[0].Skew = n }), api.ErrArg)
	}
}

// P11.1, R1: a port's ID has four bytes, and Check's error is named ahead.
func TestLongID(t *testing.T) {
	for _, n := range []int{1 << 32, 1<<32 + 1, 1<<32 + 7, 1 << 33, 1 << 40, 1 << 62, math.MaxInt} {
		long := turned(func(c *api.Config) { c.Ports[2].ID = n })
		wantNoImage(t, n, long, api.ErrLong)
		if n < math.MaxInt {
			wantNoImage(t, n, turned(func(c *api.Config) { c.Ports[1].ID, c.Ports[2].ID = n, n+1 }), api.ErrLong)
		}
		wantNoImage(t, n, turned(func(c *api.Config) { c.Ports[2].ID = n; c.Major = 0 }), api.ErrArg)
		wantNoImage(t, n, turned(func(c *api.Config) { c.Ports[1].ID = n }), api.ErrOrder)
		wantNoImage(t, n, turned(func(c *api.Config) { c.Ports[2].ID = n; c.Ports[2].Host = 0 }), api.ErrNone)
		wantNoImage(t, n, turned(func(c *api.Config) {
			c.Ports[2] = c.Ports[0]
			c.Ports[2].ID = n
		}), api.ErrTwice)
		wantNoImage(t, n, turned(func(c *api.Config) { c.Ports = c.Ports[2:]; c.Ports[0].ID = n }), api.ErrLong)
		wantNoImage(t, n, turned(func(c *api.Config) {
			c.VLs = append(c.VLs[:1], moreLinks()...)
			c.Ports = c.Ports[:2]
			c.Ports[1].ID = n
		}), api.ErrRate)
	}
	c := turned(func(c *api.Config) { c.Ports[2].ID = 1<<32 - 1 })
	wantImage(t, "4294967295", c, sealed(plain(c)))
}

// P11.2: Open's error is named first.
func TestOpen(t *testing.T) {
	for _, s := range []string{"", "A", "AF", "AFD", "\x00\x00\x00"} {
		wantNoNetwork(t, strconv.Quote(s), s, api.ErrShort)
	}
	good := sealed(plain(whole()))
	for i := range len(good) {
		for _, turn := range []byte{1, 0x80, 0xff} {
			b := []byte(good)
			b[i] ^= turn
			wantNoNetwork(t, i, string(b), api.ErrSum)
		}
		if i >= 4 {
			wantNoNetwork(t, i, good[:i], api.ErrSum)
		}
	}
	for _, s := range []string{plain(whole()), good + "x", "x" + good, good + good, "AFDX\x00\x01", "AFDX", strings.Repeat("x", 1000)} {
		wantNoNetwork(t, strconv.Quote(s), s, api.ErrSum)
	}
	wantNoNetwork(t, "sealed twice", sealed(good), api.ErrLong)
}

// P11.2: what an image begins with.
func TestBegin(t *testing.T) {
	for _, s := range []string{"", "A", "AFDX", "AFDX\x00", "XXXXX", "\x00\x01", "AFDX\x01", "BFDX\x00"} {
		wantNoNetwork(t, strconv.Quote(s), sealed(s), api.ErrShort)
	}
	for _, s := range []string{"AFDX\x00\x00", "AFDX\x00\x02", "AFDX\x01\x00", "AFDX\x01\x01", "AFDX\x80\x01", "AFDX\x00\x81", "afdx\x00\x01", "XAFDX\x00", "\x00\x01AFDX", "AFDX01", "AFDXAFDX", "\x00\x00\x00\x00\x00\x00"} {
		wantNoNetwork(t, strconv.Quote(s), sealed(s), api.ErrKind)
	}
	text := plain(whole())
	for i := range 6 {
		for turn := 1; turn < 256; turn++ {
			b := []byte(text)
			b[i] ^= byte(turn)
			wantNoNetwork(t, i, sealed(string(b)), api.ErrKind)
		}
	}
	wantNoNetwork(t, "named ahead of what follows", sealed("AFDX\x00\x02"+text[6:20]), api.ErrKind)
	wantNoNetwork(t, "named ahead of what follows", sealed("AFDX\x00\x02"+text[6:]+"x"), api.ErrKind)
}

// P11.2: an image that ends too early, wherever that is, and one of which bytes are left; both are named ahead of what Check tells.
func TestEnds(t *testing.T) {
	networks := []api.Config{whole(), {Hosts: 1, Major: 1}, {}, most()}
	for _, x := range spoilt() {
		networks = append(networks, turned(x.turn))
	}
	for k, c := range networks {
		text := plain(c)
		for i := 6; i < len(text); i += 1 + len(text)/2000 {
			wantNoNetwork(t, []int{k, i}, sealed(text[:i]), api.ErrShort)
		}
		wantNoNetwork(t, k, sealed(text[:len(text)-1]), api.ErrShort)
		for _, more := range []string{"\x00", "x", "\xff\xff", strings.Repeat("\x00", 1000), text} {
			wantNoNetwork(t, k, sealed(text+more), api.ErrLong)
		}
	}
}

// P11.2, R1: a few bytes that say that very much follows are soon told.
func TestSaysMuch(t *testing.T) {
	full := strings.Repeat("\xff", 4000)
	heads := []string{"AFDX\x00\x01", "AFDX\x00\x01\x00\x01", "AFDX\x00\x01\x00\x01\x00\x00\x00\x00\x00\x01", "AFDX\x00\x01\x00\x01\x00\x00\x00\x00\x00\x01\x00\x00", "AFDX\x00\x01\x00\x01\x00\x00\x00\x00\x00\x01\x00\x00\x00\x00"}
	for range 2000 {
		for _, head := range heads {
			wantNoNetwork(t, strconv.Quote(head), sealed(head+"\xff\xff"), api.ErrShort)
		}
	}
	for _, head := range heads[:4] {
		wantNoNetwork(t, strconv.Quote(head), sealed(head+full), api.ErrShort)
	}
	// The first port's Fresh is told at once, those of bytes 0 are not.
	wantNoNetwork(t, "ports", sealed(heads[4]+full), api.ErrArg)
	wantNoNetwork(t, "ports", sealed(heads[4]+"\xff\xff"+strings.Repeat("\x00", 4000)), api.ErrShort)
	// Links that each say that 65535 ends follow, and have none.
	wantNoNetwork(t, "links", sealed(heads[3]+"\xff\xff"+strings.Repeat("\x00\x01\x00\x00\x01\x00\x40\x00\x00\x00\x00\xff\xff", 60000)), api.ErrShort)
}

// P11.2: as many of each kind as two bytes tell are read, ahead of Check's error.
func TestMany(t *testing.T) {
	for name, c := range map[string]api.Config{
		"Parts": {Hosts: 1, Major: 1, Parts: make([]int, 65535)},
		"Wins":  {Hosts: 1, Major: 1, Wins: make([]api.Window, 65535)},
		"VLs":   {Hosts: 1, Major: 1, VLs: make([]api.VL, 65535)},
		"To":    {Hosts: 2, Major: 1, VLs: []api.VL{{ID: 1, Smax: 64, Subs: 1, To: make([]int, 65535)}}},
		"Ports": {Hosts: 1, Major: 1, Ports: make([]api.Port, 65535)},
	} {
		text, code := plain(c), api.ErrArg
		if name == "To" {
			code = api.ErrOrder
		}
		wantRefused(t, name, c, code)
		wantNoNetwork(t, name, sealed(text[:len(text)-1]), api.ErrShort)
		wantNoNetwork(t, name, sealed(text+"\x00"), api.ErrLong)
	}
}

// tooFreshOnes is numbers of eight bytes that no Fresh may be.
func tooFreshOnes() []uint64 {
	return []uint64{1<<40 + 1, 1<<40 + 2, 1<<41 + 5, 1 << 48, 1<<56 + 1, 1 << 62, 1<<63 - 1, 1 << 63, 1<<63 + 1, 1<<63 + 1<<40, 1<<64 - 1<<40, 1<<64 - 2, 1<<64 - 1}
}

// behindPort is how many bytes stand ahead of what follows a port of a network, as an image has it.
func behindPort(c api.Config, at int) int {
	c.Ports = c.Ports[:at+1]
	return len(plain(c))
}

// P11.2: a Fresh of eight bytes that is too great is told at once, ahead of Check's errors.
func TestLongFresh(t *testing.T) {
	for _, n := range tooFreshOnes() {
		for at := range 3 {
			turn := func(c *api.Config) { c.Ports[at].Fresh = int(n) }
			wantNoNetwork(t, []any{at, n}, sealed(plain(turned(turn))), api.ErrArg)
			for _, x := range spoilt() {
				c := turned(x.turn)
				if at < len(c.Ports) {
					turn(&c)
					wantNoNetwork(t, []any{at, n, x.name}, sealed(plain(c)), api.ErrArg)
				}
			}
		}
	}
	// 2 to the power of 40 itself is not too great: Check judges it by its port's kind, and behind what is wrong ahead.
	wantRefused(t, "of Queuing", turned(func(c *api.Config) { c.Ports[1].Fresh = 1 << 40 }), api.ErrArg)
	wantRefused(t, "windows ahead", turned(func(c *api.Config) { c.Ports[1].Fresh, c.Wins[0].Part = 1<<40, 1 }), api.ErrOrder)
	wantRefused(t, "message behind", turned(func(c *api.Config) { c.Ports[0].Fresh, c.Ports[0].Size = 1<<40, 54 }), api.ErrLong)
}

// P11.2: a Fresh that is too great is told wherever the bytes behind it end, and however many are left; but not if its own eight bytes are not there.
func TestLongFreshAtOnce(t *testing.T) {
	for _, n := range tooFreshOnes() {
		for at := range 3 {
			c := turned(func(c *api.Config) { c.Ports[at].Fresh = int(n) })
			text, behind := plain(c), behindPort(c, at)
			for i := 6; i < len(text); i++ {
				code := api.ErrShort
				if i >= behind {
					code = api.ErrArg
				}
				wantNoNetwork(t, []any{at, n, i}, sealed(text[:i]), code)
			}
			for _, more := range []string{"\x00", "x", "\xff\xff", strings.Repeat("\x00", 1000), text} {
				wantNoNetwork(t, []any{at, n, more}, sealed(text+more), api.ErrArg)
				wantNoNetwork(t, []any{at, n, more}, sealed(text[:behind]+more), api.ErrArg)
			}
		}
	}
}

// P11.2: a Fresh that is just not too great is not told at once, whatever is wrong behind it.
func TestMostFreshIsNotToldAtOnce(t *testing.T) {
	for at := range 3 {
		c := turned(func(c *api.Config) { c.Ports[at].Fresh = 1 << 40 })
		text := plain(c)
		for i := 6; i < len(text); i++ {
			wantNoNetwork(t, []int{at, i}, sealed(text[:i]), api.ErrShort)
		}
		wantNoNetwork(t, at, sealed(text+"\x00"), api.ErrLong)
	}
	// What Check names of the ports ahead, or of all that is ahead of them, waits till all is read.
	x := turned(func(c *api.Config) { c.Hosts, c.Ports[0].Fresh, c.Ports[1].Fresh = 0, 0, 1 })
	text := plain(x)
	wantNoNetwork(t, "ahead", sealed(text[:len(text)-1]), api.ErrShort)
	wantNoNetwork(t, "ahead", sealed(text+"\x00"), api.ErrLong)
}

// LANGUAGE 7a, R3: an answer is the same each time, whatever was asked between.
func TestAlone(t *testing.T) {
	good, first := sealed(plain(whole())), told(whole())
	for _, x := range spoilt() {
		c := turned(x.turn)
		wantRefused(t, x.name, c, x.code)
		wantImage(t, x.name, whole(), good)
		if c, e := Load(good); told(c) != first || e != api.OK {
			t.Errorf("%s: %+v, %d", x.name, c, int(e))
		}
	}
}

// R2: what is handed in is not written into, nor what stands behind its length.
func TestHandedIn(t *testing.T) {
	back := whole()
	back.Parts = append(back.Parts, 7, 8)
	back.Wins = append(back.Wins, api.Window{Part: 9}, api.Window{Part: 8})
	back.VLs = append(back.VLs, api.VL{ID: 1, To: []int{3, 1}}, api.VL{ID: 2})
	back.VLs[0].To = append(back.VLs[0].To, 8, 9)
	back.Ports = append(back.Ports, api.Port{ID: 1}, api.Port{ID: 2})
	cut := back
	cut.Parts, cut.Wins, cut.VLs, cut.Ports = back.Parts[:3], back.Wins[:2], back.VLs[:2], back.Ports[:3]
	cut.VLs[0].To = cut.VLs[0].To[:3]
	was, wasBehind := told(back), slices.Clone(cut.VLs[0].To[:5])
	s, e := Encode(cut)
	if s != sealed(plain(whole())) || e != api.OK {
		t.Errorf("%x, %d", s, int(e))
	}
	cut.Major = 0
	Encode(cut)
	if told(back) != was || !slices.Equal(cut.VLs[0].To[:5], wasBehind) {
		t.Errorf("%+v; was %s", back, was)
	}
}

// R2, LANGUAGE 7: what is loaded is the caller's: no list of it shares with another one, or with another answer.
func TestAnswers(t *testing.T) {
	s := sealed(plain(whole()))
	first, _ := Load(s)
	second, _ := Load(s)
	for i := range first.VLs {
		spread(first.VLs[i].To)
	}
	if first.VLs[0].To[0] != -77 || first.VLs[1].To[0] != -77 || told(second) != told(whole()) {
		t.Errorf("%+v", second)
	}
	third := copied(second)
	spread(second.Parts)
	if !slices.Equal(second.VLs[0].To, third.VLs[0].To) || !slices.Equal(second.VLs[1].To, third.VLs[1].To) {
		t.Errorf("%+v", second)
	}
	spread(second.VLs[0].To)
	if !slices.Equal(second.VLs[1].To, third.VLs[1].To) {
		t.Errorf("%+v", second)
	}
	clear(second.Wins[:cap(second.Wins)])
	clear(second.VLs[:cap(second.VLs)])
	clear(second.Ports[:cap(second.Ports)])
	if c, e := Load(s); told(c) != told(whole()) || e != api.OK {
		t.Errorf("%+v, %d", c, int(e))
	}
}

// spread writes into a list, and behind it as far as it may grow.
func spread(l []int) {
	l = l[:cap(l)]
	for i := range l {
		l[i] = -77
	}
}
