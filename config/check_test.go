package config

import (
	"math"
	"testing"

	"pitot/api"
)

// P10.1: a network may be of hosts alone, and of all kinds.
func TestMayBe(t *testing.T) {
	wantOK(t, "whole", whole())
	wantOK(t, "least", api.Config{Hosts: 1, Major: 1})
	wantOK(t, "empty lists", api.Config{Hosts: 1, Major: 1, Parts: []int{}, Wins: []api.Window{}, VLs: []api.VL{}, Ports: []api.Port{}})
}

// P10.1: Hosts, at its edges and far from them.
func TestHosts(t *testing.T) {
	for _, n := range append(odd(), 0, 1, 2, 63, 64, 65, 128, 256, 257) {
		c := api.Config{Hosts: n, Major: 1}
		if n >= 1 && n <= 64 {
			wantOK(t, n, c)
		} else {
			want(t, n, c, Hosts, 0, api.ErrArg)
		}
	}
}

// P10.1: each partition's host, and how many there are.
func TestParts(t *testing.T) {
	for at := range 4 {
		for _, n := range append(odd(), 4, 5, 64, 256) {
			want(t, []int{at, n}, turned(func(c *api.Config) { c.Parts[at] = n }), Parts, at, api.ErrArg)
		}
	}
	for _, last := range []int{0, 63, 64} {
		c := api.Config{Hosts: 64, Major: 1, Parts: make([]int, 64)}
		c.Parts[63] = last
		if last < 64 {
			wantOK(t, last, c)
		} else {
			want(t, last, c, Parts, 63, api.ErrArg)
		}
	}
	for _, n := range []int{65, 66, 1000} {
		c := api.Config{Hosts: 1, Major: 1, Parts: make([]int, n)}
		want(t, n, c, Parts, 64, api.ErrArg)
		c.Parts[64] = 1
		want(t, n, c, Parts, 64, api.ErrArg)
		c.Parts[63], c.Parts[3] = 1, -1
		want(t, n, c, Parts, 3, api.ErrArg)
	}
}

// P10.1: Major, at its edges and far from them.
func TestFrame(t *testing.T) {
	for _, n := range append(odd(), 0, 1, 2, 1<<30-1, 1<<30, 1<<30+1) {
		c := api.Config{Hosts: 1, Major: n}
		if n >= 1 && n <= 1<<30 {
			wantOK(t, n, c)
		} else {
			want(t, n, c, Frame, 0, api.ErrArg)
		}
	}
}

// P10.1: each window's own numbers.
func TestWindow(t *testing.T) {
	for _, n := range append(odd(), 4, 5, 256) {
		want(t, n, turned(func(c *api.Config) { c.Wins[2].Part = n }), Wins, 2, api.ErrArg)
	}
	want(t, "no partition", api.Config{Hosts: 1, Major: 9, Wins: []api.Window{{Long: 1}}}, Wins, 0, api.ErrArg)
	for _, n := range odd() {
		want(t, n, turned(func(c *api.Config) { c.Wins[3].Begin = n }), Wins, 3, api.ErrArg)
		want(t, n, turned(func(c *api.Config) { c.Wins[3].Long = n }), Wins, 3, api.ErrArg)
	}
	for _, w := range []struct{ begin, long, major int }{{0, 1, 1}, {0, 10, 10}, {9, 1, 10}, {3, 7, 10}, {1<<30 - 1, 1, 1 << 30}, {0, 1 << 30, 1 << 30}} {
		c := api.Config{Hosts: 1, Parts: []int{0}, Major: w.major, Wins: []api.Window{{Begin: w.begin, Long: w.long}}}
		wantOK(t, w, c)
		for _, turn := range []func(w *api.Window){
			func(w *api.Window) { w.Begin++ },
			func(w *api.Window) { w.Long++ },
			func(w *api.Window) { w.Begin = -1 },
			func(w *api.Window) { w.Long = 0 },
			func(w *api.Window) { w.Begin, w.Long = w.Begin+w.Long, 0 },
			func(w *api.Window) { w.Begin, w.Long = w.Begin+w.Long, -1 },
			func(w *api.Window) { w.Long = math.MaxInt - w.Begin + 1 },
			func(w *api.Window) { w.Begin = math.MaxInt - w.Long + 1 },
			func(w *api.Window) { w.Begin, w.Long = math.MaxInt, math.MaxInt },
			func(w *api.Window) { w.Part = 1 },
			func(w *api.Window) { w.Part = -1 },
		} {
			d := copied(c)
			turn(&d.Wins[0])
			want(t, d.Wins[0], d, Wins, 0, api.ErrArg)
		}
	}
}

// P10.1: windows of one host follow each other; those of others do not count.
func TestWindowsFollow(t *testing.T) {
	for i, x := range []struct {
		wins []api.Window
		at   int
		code api.Errno
	}{
		{[]api.Window{{Part: 0, Begin: 0, Long: 5}, {Part: 0, Begin: 5, Long: 5}}, 0, api.OK},
		{[]api.Window{{Part: 0, Begin: 0, Long: 5}, {Part: 0, Begin: 4, Long: 5}}, 1, api.ErrOrder},
		{[]api.Window{{Part: 0, Begin: 0, Long: 5}, {Part: 2, Begin: 5, Long: 5}}, 0, api.OK},
		{[]api.Window{{Part: 0, Begin: 0, Long: 5}, {Part: 2, Begin: 4, Long: 5}}, 1, api.ErrOrder},
		{[]api.Window{{Part: 2, Begin: 0, Long: 5}, {Part: 0, Begin: 4, Long: 5}}, 1, api.ErrOrder},
		{[]api.Window{{Part: 0, Begin: 5, Long: 5}, {Part: 0, Begin: 0, Long: 5}}, 1, api.ErrOrder},
		{[]api.Window{{Part: 0, Begin: 5, Long: 5}, {Part: 2, Begin: 0, Long: 5}}, 1, api.ErrOrder},
		{[]api.Window{{Part: 0, Begin: 5, Long: 5}, {Part: 1, Begin: 0, Long: 5}}, 0, api.OK},
		{[]api.Window{{Part: 0, Begin: 5, Long: 5}, {Part: 1, Begin: 0, Long: 9}, {Part: 2, Begin: 9, Long: 1}}, 2, api.ErrOrder},
		{[]api.Window{{Part: 0, Begin: 2, Long: 5}, {Part: 1, Begin: 0, Long: 9}, {Part: 2, Begin: 7, Long: 1}}, 0, api.OK},
		{[]api.Window{{Part: 0, Begin: 0, Long: 10}, {Part: 1, Begin: 0, Long: 10}, {Part: 3, Begin: 0, Long: 10}}, 0, api.OK},
		{[]api.Window{{Part: 0, Begin: 0, Long: 2}, {Part: 0, Begin: 2, Long: 2}, {Part: 0, Begin: 3, Long: 2}, {Part: 0, Begin: -1, Long: 2}}, 2, api.ErrOrder},
		{[]api.Window{{Part: 0, Begin: 1, Long: 5}, {Part: 0, Begin: 1, Long: 10}}, 1, api.ErrArg},
		{[]api.Window{{Part: 0, Begin: 1, Long: 5}, {Part: 0, Begin: -1, Long: 1}}, 1, api.ErrArg},
		{[]api.Window{{Part: 0, Begin: 1, Long: 5}, {Part: 0, Begin: 1, Long: 0}}, 1, api.ErrArg},
	} {
		what := Wins
		if x.code == api.OK {
			what = 0
		}
		want(t, i, api.Config{Hosts: 3, Parts: []int{0, 1, 0, 2}, Major: 10, Wins: x.wins}, what, x.at, x.code)
	}
}

// P10.1: how many windows there are.
func TestMostWindows(t *testing.T) {
	c := api.Config{Hosts: 1, Parts: []int{0}, Major: 1000}
	for i := range 256 {
		c.Wins = append(c.Wins, api.Window{Begin: 2 * i, Long: 2})
	}
	wantOK(t, 256, c)
	c.Wins = append(c.Wins, api.Window{Begin: 512, Long: 2})
	want(t, 257, c, Wins, 256, api.ErrArg)
	c.Wins[256].Begin = 0
	want(t, "ErrArg is named ahead", c, Wins, 256, api.ErrArg)
	c.Wins[255].Begin = 0
	want(t, "one ahead", c, Wins, 255, api.ErrOrder)
}

// P10.2: each link's own numbers.
func TestVL(t *testing.T) {
	for _, n := range append(odd(), 0, 1, 2, 65534, 65535, 65536, 65537) {
		c := api.Config{Hosts: 2, Major: 1, VLs: []api.VL{{ID: n, Smax: 64, Subs: 1, To: []int{1}}}}
		if n >= 1 && n <= 65535 {
			wantOK(t, n, c)
		} else {
			want(t, n, c, VLs, 0, api.ErrArg)
		}
	}
	for at := range 3 {
		for _, n := range append(odd(), 4, 5, 256) {
			want(t, n, turned(func(c *api.Config) { c.VLs[at].Host = n }), VLs, at, api.ErrArg)
		}
		wantField(t, "Bag", VLs, at, 0, 7, func(c *api.Config, n int) { c.VLs[at].Bag = n })
		wantField(t, "Skew", VLs, at, 0, 1<<30, func(c *api.Config, n int) { c.VLs[at].Skew = n })
	}
	wantField(t, "Smax", VLs, 1, 64, 1518, func(c *api.Config, n int) { c.VLs[1].Smax = n })
	wantField(t, "Subs", VLs, 1, 1, 4, func(c *api.Config, n int) { c.VLs[1].Subs = n })
	for _, to := range [][]int{nil, {}} {
		want(t, "To", turned(func(c *api.Config) { c.VLs[1].To = to }), VLs, 1, api.ErrArg)
	}
	wantOK(t, "High", turned(func(c *api.Config) { c.VLs[0].High, c.VLs[1].High = true, false }))
}

// P10.2: links follow each other by their IDs.
func TestVLsFollow(t *testing.T) {
	for _, x := range []struct{ first, second int }{{1, 2}, {1, 65535}, {65534, 65535}, {2, 1}, {2, 2}, {65535, 65535}, {65535, 1}} {
		c := api.Config{Hosts: 2, Major: 1, VLs: []api.VL{{ID: x.first, Smax: 64, Subs: 1, To: []int{1}}, {ID: x.second, Smax: 64, Subs: 1, To: []int{1}}}}
		if x.second > x.first {
			wantOK(t, x, c)
		} else {
			want(t, x, c, VLs, 1, api.ErrOrder)
		}
	}
	want(t, "not above the one ahead, though above the first", turned(func(c *api.Config) { c.VLs[2].ID = 5 }), VLs, 2, api.ErrOrder)
}

// P10.2: To rises, and is of other hosts.
func TestTo(t *testing.T) {
	for _, x := range []struct {
		to   []int
		code api.Errno
	}{
		{[]int{1}, api.OK},
		{[]int{0}, api.OK},
		{[]int{3}, api.OK},
		{[]int{0, 1, 3}, api.OK},
		{[]int{0, 3}, api.OK},
		{[]int{1, 0}, api.ErrOrder},
		{[]int{1, 1}, api.ErrOrder},
		{[]int{0, 1, 1}, api.ErrOrder},
		{[]int{0, 3, 1}, api.ErrOrder},
		{[]int{3, 0, 1}, api.ErrOrder},
		{[]int{2, 1}, api.ErrOrder},
		{[]int{4, 0}, api.ErrOrder},
		{[]int{2, 2}, api.ErrOrder},
		{[]int{math.MaxInt, math.MinInt}, api.ErrOrder},
		{[]int{2}, api.ErrNone},
		{[]int{2, 3}, api.ErrNone},
		{[]int{1, 2}, api.ErrNone},
		{[]int{0, 1, 2, 3}, api.ErrNone},
		{[]int{4}, api.ErrNone},
		{[]int{0, 4}, api.ErrNone},
		{[]int{-1}, api.ErrNone},
		{[]int{-1, 0}, api.ErrNone},
		{[]int{0, math.MaxInt}, api.ErrNone},
		{[]int{math.MinInt, 0}, api.ErrNone},
		{[]int{math.MinInt, math.MaxInt}, api.ErrNone},
	} {
		c := api.Config{Hosts: 4, Major: 1, VLs: []api.VL{{ID: 1, Host: 0, Smax: 64, Subs: 1, To: []int{1}}, {ID: 2, Host: 2, Smax: 64, Subs: 1, To: x.to}}}
		if x.code == api.OK {
			wantOK(t, x.to, c)
		} else {
			want(t, x.to, c, VLs, 1, x.code)
		}
	}
}

// P10.2: how many links there are.
func TestMostVLs(t *testing.T) {
	c := api.Config{Hosts: 64, Major: 1}
	for i := range 256 {
		c.VLs = append(c.VLs, api.VL{ID: i + 1, Host: i % 63, Smax: 64, Subs: 1, To: []int{63}})
	}
	wantOK(t, 256, c)
	c.VLs = append(c.VLs, api.VL{ID: 257, Host: 5, Smax: 64, Subs: 1, To: []int{63}})
	want(t, 257, c, VLs, 256, api.ErrArg)
	c.VLs[256].ID = 256
	want(t, "ErrArg is named ahead", c, VLs, 256, api.ErrArg)
	c.VLs[255].ID = 255
	want(t, "one ahead", c, VLs, 255, api.ErrOrder)
}

// P10.3: each port's own numbers.
func TestPort(t *testing.T) {
	for _, n := range append(odd(), 0, 1, 2, 255, 256, 65535, 65536) {
		c := turned(func(c *api.Config) { c.Ports = c.Ports[:1]; c.Ports[0].ID = n })
		if n >= 1 {
			wantOK(t, n, c)
		} else {
			want(t, n, c, Ports, 0, api.ErrArg)
		}
	}
	for at := range 5 {
		for _, n := range append(odd(), 0, 3, 4, 257, 258) {
			want(t, n, turned(func(c *api.Config) { c.Ports[at].Kind = n }), Ports, at, api.ErrArg)
		}
		for _, n := range append(odd(), 4, 5, 256) {
			want(t, n, turned(func(c *api.Config) { c.Ports[at].Part = n }), Ports, at, api.ErrArg)
		}
		wantField(t, "UDP", Ports, at, 0, 65535, func(c *api.Config, n int) { c.Ports[at].UDP = n })
	}
	for at := 2; at < 5; at++ {
		wantField(t, "Size", Ports, at, 1, 8192, func(c *api.Config, n int) { c.Ports[at].Size = n })
	}
	for at := range 2 {
		for _, n := range append(odd(), 0, 8193) {
			want(t, n, turned(func(c *api.Config) { c.Ports[at].Size = n }), Ports, at, api.ErrArg)
		}
	}
}

// P10.3: what a port asks of the others: of its partition, of its link, and of the port ahead.
func TestPortOfNetwork(t *testing.T) {
	for i, x := range []struct {
		at   int
		code api.Errno
		turn func(p *api.Port)
	}{
		{0, api.ErrNone, func(p *api.Port) { p.Host = 1 }},
		{0, api.ErrNone, func(p *api.Port) { p.Host = 4 }},
		{0, api.ErrNone, func(p *api.Port) { p.Host = -1 }},
		{0, api.ErrNone, func(p *api.Port) { p.Host = math.MaxInt }},
		{0, api.ErrNone, func(p *api.Port) { p.Part = 1 }},
		{0, api.OK, func(p *api.Port) { p.Part = 2 }},
		{0, api.ErrNone, func(p *api.Port) { p.VL = 0 }},
		{0, api.ErrNone, func(p *api.Port) { p.VL = 4 }},
		{0, api.ErrNone, func(p *api.Port) { p.VL = -3 }},
		{0, api.ErrNone, func(p *api.Port) { p.VL = 3 + 65536 }},
		{0, api.ErrNone, func(p *api.Port) { p.VL = math.MinInt }},
		{0, api.ErrNone, func(p *api.Port) { p.VL = 9 }},                       // which comes to its host
		{0, api.ErrNone, func(p *api.Port) { p.Host, p.Part = 1, 1 }},          // to which its link goes
		{0, api.OK, func(p *api.Port) { p.VL, p.Size = 300, 17 }},              // which is its host's too
		{1, api.ErrNone, func(p *api.Port) { p.VL = 9 }},                       // which is its host's
		{1, api.ErrNone, func(p *api.Port) { p.Host, p.Part = 0, 0 }},          // whose link it is
		{1, api.OK, func(p *api.Port) { p.Host, p.Part = 2, 3 }},               // to which its link goes too
		{3, api.ErrNone, func(p *api.Port) { p.VL = 3 }},                       // which goes from its host
		{3, api.ErrNone, func(p *api.Port) { p.Host, p.Part = 2, 3 }},          // to which its link does not go
		{3, api.ErrNone, func(p *api.Port) { p.Host, p.Part, p.VL = 1, 1, 9 }}, // whose link it is
		{1, api.OK, func(p *api.Port) { p.VL, p.Size, p.Fresh = 300, 17, 1 }},  // which goes to its host too
		{2, api.ErrNone, func(p *api.Port) { p.VL = 3 }},                       // which comes to its host
		{2, api.OK, func(p *api.Port) { p.Host, p.Part, p.VL = 0, 2, 3 }},      // which is that host's
		{1, api.ErrOrder, func(p *api.Port) { p.ID = 1 }},
		{3, api.ErrOrder, func(p *api.Port) { p.ID = 5 }},
		{3, api.ErrOrder, func(p *api.Port) { p.ID = 4 }}, // above that of the first ones
		{3, api.ErrOrder, func(p *api.Port) { p.ID = 1 }},
		{4, api.OK, func(p *api.Port) { p.ID = math.MaxInt }},
	} {
		c := whole()
		x.turn(&c.Ports[x.at])
		if x.code == api.OK {
			wantOK(t, i, c)
		} else {
			want(t, i, c, Ports, x.at, x.code)
		}
	}
}

// P10.3: Sub is of what goes out, and is one of the link's.
func TestSub(t *testing.T) {
	wantField(t, "Sub", Ports, 0, 0, 2, func(c *api.Config, n int) { c.Ports[0].Sub = n })
	wantField(t, "Sub", Ports, 2, 0, 0, func(c *api.Config, n int) { c.Ports[2].Sub = n })
	wantField(t, "Sub", Ports, 4, 0, 3, func(c *api.Config, n int) { c.Ports[4].Sub = n })
	wantField(t, "Sub", Ports, 1, 0, 0, func(c *api.Config, n int) { c.Ports[1].Sub = n }) // its link has three
	wantField(t, "Sub", Ports, 3, 0, 0, func(c *api.Config, n int) { c.Ports[3].Sub = n })
}

// P10.3: Depth is of queuing ports, Fresh of sampling ones that come in.
func TestDepthAndFresh(t *testing.T) {
	for at, most := range []struct{ leastDepth, depth, leastFresh, fresh int }{{0, 0, 0, 0}, {0, 0, 1, 1 << 40}, {1, 64, 0, 0}, {1, 64, 0, 0}, {1, 64, 0, 0}} {
		wantField(t, "Depth", Ports, at, most.leastDepth, most.depth, func(c *api.Config, n int) { c.Ports[at].Depth = n })
		wantField(t, "Fresh", Ports, at, most.leastFresh, most.fresh, func(c *api.Config, n int) { c.Ports[at].Fresh = n })
	}
}

// P10.3: a sampling message goes into one frame of its link; a queuing one need not.
func TestSizeOfKind(t *testing.T) {
	for _, smax := range []int{64, 65, 100, 1517, 1518} {
		for at := range 2 {
			for _, size := range []int{1, smax - 48, smax - 47, smax - 46, smax, 8192} {
				c := whole()
				c.VLs[0].Smax = smax
				c.Ports[0].Size, c.Ports[1].Size = 1, 1
				c.Ports[at].Size = size
				if size <= smax-47 {
					wantOK(t, []int{smax, size}, c)
				} else {
					want(t, []int{smax, size}, c, Ports, at, api.ErrLong)
				}
			}
		}
	}
}

// P10.3: no two ports have the same Host, Out, VL and UDP.
func TestTwice(t *testing.T) {
	hosts := api.Config{Hosts: 3, Parts: []int{0, 1, 2, 0}, Major: 1, VLs: []api.VL{
		{ID: 1, Host: 0, Smax: 64, Subs: 2, To: []int{1, 2}},
		{ID: 2, Host: 0, Smax: 64, Subs: 1, To: []int{1, 2}},
		{ID: 3, Host: 1, Smax: 64, Subs: 1, To: []int{0}},
	}}
	out := api.Port{ID: 1, Host: 0, Part: 0, Kind: api.Queuing, Out: true, VL: 1, UDP: 7, Size: 9, Depth: 3}
	in := api.Port{ID: 1, Host: 1, Part: 1, Kind: api.Sampling, VL: 1, UDP: 7, Size: 9, Fresh: 3}
	for i, x := range []struct {
		first api.Port
		turn  func(p *api.Port)
		twice bool
	}{
		{out, func(p *api.Port) {}, true},
		{in, func(p *api.Port) {}, true},
		{out, func(p *api.Port) { p.Sub, p.Part, p.Size, p.Depth = 1, 3, 10, 4 }, true},
		{out, func(p *api.Port) { p.Kind, p.Depth = api.Sampling, 0 }, true},
		{in, func(p *api.Port) { p.Kind, p.Size, p.Depth, p.Fresh = api.Queuing, 8192, 64, 0 }, true},
		{in, func(p *api.Port) { p.Size, p.Fresh = 10, 4 }, true},
		{out, func(p *api.Port) { p.UDP = 8 }, false},
		{in, func(p *api.Port) { p.UDP = 7 + 256 }, false},
		{out, func(p *api.Port) { p.VL = 2 }, false},
		{in, func(p *api.Port) { p.VL = 2 }, false},
		{in, func(p *api.Port) { p.Host, p.Part = 2, 2 }, false},
		{in, func(p *api.Port) { p.Out, p.VL, p.Fresh = true, 3, 0 }, false},
		{out, func(p *api.Port) { p.Host, p.Part, p.Out = 1, 1, false }, false},
	} {
		c := copied(hosts)
		second := x.first
		second.ID = 3
		x.turn(&second)
		between := api.Port{ID: 2, Host: 0, Part: 3, Kind: api.Queuing, VL: 3, UDP: 7, Size: 9, Depth: 3}
		c.Ports = []api.Port{x.first, between, second}
		if x.twice {
			want(t, i, c, Ports, 2, api.ErrTwice)
		} else {
			wantOK(t, i, c)
		}
	}
}

// P10.3: how many ports there are.
func TestMostPorts(t *testing.T) {
	c := whole()
	c.Ports = nil
	for i := range 512 {
		c.Ports = append(c.Ports, api.Port{ID: i + 1, Host: 1, Part: 1, Kind: api.Queuing, VL: 3, UDP: i, Size: 9, Depth: 3})
	}
	wantOK(t, 512, c)
	c.Ports = append(c.Ports, api.Port{ID: 513, Host: 1, Part: 1, Kind: api.Queuing, VL: 3, UDP: 512, Size: 9, Depth: 3})
	want(t, 513, c, Ports, 512, api.ErrArg)
	c.Ports[512].ID = 512
	want(t, "ErrArg is named ahead", c, Ports, 512, api.ErrArg)
	c.Ports[511].UDP = 0
	want(t, "one ahead", c, Ports, 511, api.ErrTwice)
}

// P10.4: the jitter of each host is at most 6250, the first one's above it is told.
func TestJitters(t *testing.T) {
	links := func(first, host int, smax ...int) []api.VL {
		var l []api.VL
		for i, n := range smax {
			l = append(l, api.VL{ID: first + i, Host: host, Smax: n, Subs: 1, To: []int{3}})
		}
		return l
	}
	c := api.Config{Hosts: 4, Major: 1}
	c.VLs = links(1, 1, 1417, 1417, 1418, 1418) // 6250 with 20 of each, and 500
	wantOK(t, "just as much as may be", c)
	c.VLs[2].Smax++
	want(t, "one more", c, Jitters, 1, api.ErrRate)
	c.VLs[3].Smax--
	wantOK(t, "one less", c)
	c.VLs = append(c.VLs, links(10, 2, 1418, 1418, 1418, 1418)...)
	want(t, "another host", c, Jitters, 2, api.ErrRate)
	c.VLs[0].Smax++
	want(t, "both", c, Jitters, 1, api.ErrRate)
	c.VLs = links(1, 0, 1417, 1418, 1418, 1418)
	want(t, "the first host", c, Jitters, 0, api.ErrRate)
	c.VLs[0].Host = 2
	wantOK(t, "shared out", c)
	for i := range c.VLs {
		c.VLs[i].Host, c.VLs[i].To = 3, []int{0}
	}
	want(t, "the last host", c, Jitters, 3, api.ErrRate)
}

// R1: faults of all kinds at once are told kind by kind, as the ones ahead are mended.
func TestKindByKind(t *testing.T) {
	c := whole()
	bad := copied(c)
	for i := range 4 {
		bad.VLs = append(bad.VLs, api.VL{ID: 400 + i, Host: 2, Smax: 1518, Subs: 1, To: []int{3}})
	}
	good := bad.VLs[1].Smax
	bad.Hosts, bad.Parts[2], bad.Major, bad.Wins[1].Long, bad.VLs[1].Smax, bad.Ports[3].Size = 65, 65, 0, 0, 0, 0
	want(t, "Hosts", bad, Hosts, 0, api.ErrArg)
	bad.Hosts = c.Hosts
	want(t, "Parts", bad, Parts, 2, api.ErrArg)
	bad.Parts = c.Parts
	want(t, "Frame", bad, Frame, 0, api.ErrArg)
	bad.Major = c.Major
	want(t, "Wins", bad, Wins, 1, api.ErrArg)
	bad.Wins = c.Wins
	want(t, "VLs", bad, VLs, 1, api.ErrArg)
	bad.VLs[1].Smax = good
	want(t, "Ports", bad, Ports, 3, api.ErrArg)
	bad.Ports = c.Ports
	want(t, "Jitters", bad, Jitters, 2, api.ErrRate)
	bad.VLs = c.VLs
	wantOK(t, "all mended", bad)
}

// P10.2, R1: of a link's faults the one that is named first is told.
func TestVLsFirstFault(t *testing.T) {
	c := whole()
	c.VLs[1] = api.VL{ID: 3, Host: 1, Bag: 8, Smax: 64, Subs: 1, To: []int{4, 1}}
	want(t, "Bag", c, VLs, 1, api.ErrArg)
	c.VLs[1].Bag = 0
	want(t, "ID and To", c, VLs, 1, api.ErrOrder)
	c.VLs[1].ID = 9
	want(t, "To does not rise", c, VLs, 1, api.ErrOrder)
	c.VLs[1].To = []int{1, 4}
	want(t, "To is no host", c, VLs, 1, api.ErrNone)
	c.VLs[1].ID = 2
	want(t, "ID ahead of To", c, VLs, 1, api.ErrOrder)
	c.VLs[0].To = []int{0}
	want(t, "one ahead", c, VLs, 0, api.ErrNone)
}

// P10.3, R1: of a port's faults the one that is named first is told, as they are mended one by one.
func TestPortsFirstFault(t *testing.T) {
	type step struct {
		code api.Errno
		mend func(p *api.Port)
	}
	steps := func(c api.Config, x []step) {
		for i, s := range x {
			want(t, []any{c.Ports[2], i}, c, Ports, 2, s.code)
			s.mend(&c.Ports[2])
		}
		wantOK(t, c.Ports[2], c)
	}
	c := whole()
	c.Ports = c.Ports[:3]
	c.Ports[2] = api.Port{ID: 2, Host: 2, Part: 1, Kind: 3, Out: true, VL: 8, Sub: 3, UDP: 7, Size: 54, Depth: 1}
	steps(copied(c), []step{
		{api.ErrArg, func(p *api.Port) { p.Kind = api.Sampling }},
		{api.ErrOrder, func(p *api.Port) { p.ID = 3 }},
		{api.ErrNone, func(p *api.Port) { p.Host = 1 }},
		{api.ErrNone, func(p *api.Port) { p.VL = 3 }},
		{api.ErrNone, func(p *api.Port) { p.Host, p.Part = 0, 0 }},
		{api.ErrArg, func(p *api.Port) { p.Sub = 2 }},
		{api.ErrArg, func(p *api.Port) { p.Depth = 0 }},
		{api.ErrLong, func(p *api.Port) { p.Size = 53 }},
		{api.ErrTwice, func(p *api.Port) { p.UDP = 8 }},
	})
	c.Ports[2] = api.Port{ID: 1, Host: 1, Part: 0, Kind: api.Sampling, VL: 4, Sub: 1, UDP: -7, Size: 54, Depth: 1, Fresh: 0}
	steps(copied(c), []step{
		{api.ErrArg, func(p *api.Port) { p.UDP = 7 }},
		{api.ErrOrder, func(p *api.Port) { p.ID = 3 }},
		{api.ErrNone, func(p *api.Port) { p.Host = 0 }},
		{api.ErrNone, func(p *api.Port) { p.VL = 3 }},
		{api.ErrNone, func(p *api.Port) { p.Host, p.Part = 1, 1 }},
		{api.ErrArg, func(p *api.Port) { p.Sub = 0 }},
		{api.ErrArg, func(p *api.Port) { p.Depth = 0 }},
		{api.ErrArg, func(p *api.Port) { p.Fresh = 1 }},
		{api.ErrLong, func(p *api.Port) { p.Size = 53 }},
		{api.ErrTwice, func(p *api.Port) { p.UDP = 8 }},
	})
	c.Ports[2] = api.Port{ID: 3, Host: 1, Part: 1, Kind: api.Queuing, VL: 3, UDP: 7, Size: 8192, Fresh: 1}
	steps(copied(c), []step{
		{api.ErrArg, func(p *api.Port) { p.Depth = 1 }},
		{api.ErrArg, func(p *api.Port) { p.Fresh = 0 }},
		{api.ErrTwice, func(p *api.Port) { p.UDP = 8 }},
	})
}
