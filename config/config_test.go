package config

import (
	"math"
	"reflect"
	"slices"
	"testing"

	"pitot/api"
)

// whole is a network that may be: what each of its kinds is of more than once, but for the hosts.
func whole() api.Config {
	return api.Config{
		Hosts: 4,
		Parts: []int{0, 1, 0, 2},
		Major: 1000,
		Wins:  []api.Window{{Part: 0, Begin: 0, Long: 400}, {Part: 1, Begin: 100, Long: 900}, {Part: 2, Begin: 400, Long: 100}, {Part: 0, Begin: 600, Long: 400}},
		VLs: []api.VL{
			{ID: 3, Host: 0, Bag: 0, Smax: 100, Subs: 3, Skew: 500, To: []int{1, 2}},
			{ID: 9, Host: 1, Bag: 7, Smax: 1518, High: true, Subs: 1, To: []int{0}},
			{ID: 300, Host: 0, Bag: 3, Smax: 64, Subs: 4, To: []int{1, 2, 3}},
		},
		Ports: []api.Port{
			{ID: 1, Host: 0, Part: 0, Kind: api.Sampling, Out: true, VL: 3, Sub: 1, UDP: 7, Size: 53},
			{ID: 2, Host: 1, Part: 1, Kind: api.Sampling, VL: 3, UDP: 7, Size: 53, Fresh: 100},
			{ID: 5, Host: 1, Part: 1, Kind: api.Queuing, Out: true, VL: 9, UDP: 8, Size: 8192, Depth: 64},
			{ID: 6, Host: 0, Part: 2, Kind: api.Queuing, VL: 9, UDP: 8, Size: 8192, Depth: 1},
			{ID: 7, Host: 0, Part: 2, Kind: api.Queuing, Out: true, VL: 300, Sub: 3, UDP: 65535, Size: 1, Depth: 2},
		},
	}
}

// copied is a network that shares nothing with another one.
func copied(c api.Config) api.Config {
	c.Parts, c.Wins, c.VLs, c.Ports = slices.Clone(c.Parts), slices.Clone(c.Wins), slices.Clone(c.VLs), slices.Clone(c.Ports)
	for i := range c.VLs {
		c.VLs[i].To = slices.Clone(c.VLs[i].To)
	}
	return c
}

// turned is the whole network with one turn.
func turned(turn func(c *api.Config)) api.Config {
	c := whole()
	turn(&c)
	return c
}

// want is one judgement of Check.
func want(t *testing.T, name any, c api.Config, what, at int, code api.Errno) {
	t.Helper()
	if f, wrong := Check(c); f != (Fault{What: what, At: at}) || wrong != code {
		t.Errorf("%v: %v, %d; want {%d %d}, %d", name, f, int(wrong), what, at, int(code))
	}
}

func wantOK(t *testing.T, name any, c api.Config) {
	t.Helper()
	want(t, name, c, 0, 0, api.OK)
}

// odd is numbers that are far from those that may be, or next to them once they are cut to fewer bits.
func odd() []int {
	return []int{-1, -2, -64, -1 << 31, -1 << 32, math.MinInt, math.MinInt + 1, 1<<31 - 1, 1 << 31, 1<<32 + 1, 1<<32 + 64, 1<<50 + 1, 1 << 62, math.MaxInt - 1, math.MaxInt}
}

// wantField is a number that may be from least to most: ErrArg of the one at this place with others.
func wantField(t *testing.T, name string, what, at, least, most int, put func(c *api.Config, n int)) {
	t.Helper()
	near := []int{least - 1, least, least + 1, most - 1, most, most + 1, -least, -most, least + 256, most + 256, most + 65536}
	for _, n := range append(odd(), near...) {
		c := turned(func(c *api.Config) { put(c, n) })
		if n >= least && n <= most {
			wantOK(t, []any{name, n}, c)
		} else {
			want(t, []any{name, n}, c, what, at, api.ErrArg)
		}
	}
}

// The examples of the chapter.
func TestExamples(t *testing.T) {
	want(t, "nothing", api.Config{}, 1, 0, api.ErrArg)
	if n := Largest(64); n != 17 {
		t.Error(n)
	}
}

// The chapter: what a fault is of has these numbers, by which it is told.
func TestKinds(t *testing.T) {
	if l := []int{Hosts, Parts, Frame, Wins, VLs, Ports, Jitters}; !slices.Equal(l, []int{1, 2, 3, 4, 5, 6, 7}) {
		t.Error(l)
	}
}

// P10.4: what is 500, and Smax and 20 of each of a host's links.
func TestJitter(t *testing.T) {
	c := whole()
	for host, n := range map[int]int{0: 704, 1: 2038, 2: 500, 3: 500, 4: 500, -1: 500, math.MaxInt: 500, math.MinInt: 500} {
		if j := Jitter(c, host); j != n {
			t.Errorf("%d: %d; want %d", host, j, n)
		}
	}
	if n := Jitter(api.Config{}, 0); n != 500 {
		t.Error(n)
	}
	twice := api.Config{VLs: []api.VL{{ID: 5, Host: 7, Smax: 10}, {ID: 5, Host: 7, Smax: 3}, {ID: 5, Host: 8, Smax: 1000}}}
	if n := Jitter(twice, 7); n != 553 { // a network that may not be has a jitter too
		t.Error(n)
	}
}

// P10.4, LANGUAGE 7a: the link of a number, or nothing.
func TestFindVL(t *testing.T) {
	c := whole()
	for _, v := range c.VLs {
		if w, is := VL(c, v.ID); !is || !reflect.DeepEqual(w, v) {
			t.Errorf("%d: %v, %v", v.ID, w, is)
		}
	}
	for _, id := range append(odd(), 0, 1, 2, 4, 8, 10, 3+256, 9+65536) {
		if v, is := VL(c, id); is || !reflect.DeepEqual(v, api.VL{}) {
			t.Errorf("%d: %v, %v", id, v, is)
		}
	}
	if v, is := VL(api.Config{}, 0); is || !reflect.DeepEqual(v, api.VL{}) {
		t.Error(v, is)
	}
	twice := api.Config{VLs: []api.VL{{ID: 5, Smax: 1}, {ID: -2, Smax: 2}, {ID: 5, Smax: 3}, {ID: -2, Smax: 4}}}
	for id, smax := range map[int]int{5: 1, -2: 2} {
		if v, is := VL(twice, id); !is || v.Smax != smax {
			t.Errorf("%d: %v, %v", id, v, is)
		}
	}
}

// P10.4, LANGUAGE 7a: the port of a number, or nothing.
func TestFindPort(t *testing.T) {
	c := whole()
	for _, p := range c.Ports {
		if q, is := Port(c, p.ID); !is || q != p {
			t.Errorf("%d: %v, %v", p.ID, q, is)
		}
	}
	for _, id := range append(odd(), 0, 3, 4, 8, 1+256, 7+65536) {
		if p, is := Port(c, id); is || p != (api.Port{}) {
			t.Errorf("%d: %v, %v", id, p, is)
		}
	}
	if p, is := Port(api.Config{}, 0); is || p != (api.Port{}) {
		t.Error(p, is)
	}
	twice := api.Config{Ports: []api.Port{{ID: 5, Size: 1}, {ID: -2, Size: 2}, {ID: 5, Size: 3}, {ID: -2, Size: 4}}}
	for id, size := range map[int]int{5: 1, -2: 2} {
		if p, is := Port(twice, id); !is || p.Size != size {
			t.Errorf("%d: %v, %v", id, p, is)
		}
	}
}

// P10.4: what a host sends and takes.
func TestSendsAndTakes(t *testing.T) {
	for _, x := range []struct {
		host         int
		sends, takes []int
	}{
		{0, []int{3, 300}, []int{9}},
		{1, []int{9}, []int{3, 300}},
		{2, nil, []int{3, 300}},
		{3, nil, []int{300}},
		{4, nil, nil},
		{-1, nil, nil},
		{math.MaxInt, nil, nil},
	} {
		if l := Sends(whole(), x.host); !slices.Equal(l, x.sends) {
			t.Errorf("%d sends %v; want %v", x.host, l, x.sends)
		}
		if l := Takes(whole(), x.host); !slices.Equal(l, x.takes) {
			t.Errorf("%d takes %v; want %v", x.host, l, x.takes)
		}
		if l := append(Sends(api.Config{}, x.host), Takes(api.Config{}, x.host)...); len(l) != 0 {
			t.Errorf("%d: %v", x.host, l)
		}
	}
}

// P10.4: rising, and each once, also of a network that may not be.
func TestSendsAndTakesOfAnyNetwork(t *testing.T) {
	c := api.Config{VLs: []api.VL{
		{ID: 9, Host: 1, To: []int{2, 2}},
		{ID: -4, Host: 1, To: []int{3, 2}},
		{ID: 9, Host: 1, To: []int{1, 2}},
		{ID: 5, Host: 1, To: []int{2}},
		{ID: 9, Host: 1},
		{ID: 7, Host: 2, To: []int{1}},
	}}
	for host, l := range map[int][2][]int{1: {{-4, 5, 9}, {7, 9}}, 2: {{7}, {-4, 5, 9}}, 3: {nil, {-4}}} {
		if sends, takes := Sends(c, host), Takes(c, host); !slices.Equal(sends, l[0]) || !slices.Equal(takes, l[1]) {
			t.Errorf("%d: %v, %v; want %v", host, sends, takes, l)
		}
	}
}

// P10.4: Largest is smax less 47, whatever that is.
func TestLargest(t *testing.T) {
	for smax, n := range map[int]int{64: 17, 65: 18, 100: 53, 1517: 1470, 1518: 1471, 47: 0, 0: -47, -1: -48, math.MaxInt: math.MaxInt - 47} {
		if l := Largest(smax); l != n {
			t.Errorf("%d: %d; want %d", smax, l, n)
		}
	}
}

// R2: what is handed in is not written into, nor what stands behind its length.
func TestHandedIn(t *testing.T) {
	back := whole()
	back.Parts = append(back.Parts, 0, 1, 2)
	back.Wins = append(back.Wins, api.Window{Part: 1}, api.Window{Part: 2})
	back.VLs = append(back.VLs, api.VL{ID: 1, To: []int{3, 1}}, api.VL{ID: 2})
	back.VLs[0].To = append(back.VLs[0].To, 3, 4, 5)
	back.Ports = append(back.Ports, api.Port{ID: 1}, api.Port{ID: 2})
	cut := back
	cut.Parts, cut.Wins, cut.VLs, cut.Ports = back.Parts[:4], back.Wins[:4], back.VLs[:3], back.Ports[:5]
	cut.VLs[0].To = cut.VLs[0].To[:2]
	was, wasBehind := copied(back), slices.Clone(back.VLs[0].To[:5])
	wantOK(t, "cut", cut)
	for host := range 4 {
		use(cut, host)
		use(back, host)
	}
	if !reflect.DeepEqual(copied(back), was) || !slices.Equal(back.VLs[0].To[:5], wasBehind) {
		t.Errorf("%v; was %v", back, was)
	}
}

// use asks all that there is, and writes into what is answered and behind it.
func use(c api.Config, n int) {
	Check(c)
	Jitter(c, n)
	Port(c, n)
	Largest(n)
	v, _ := VL(c, n)
	for _, l := range [][]int{v.To, Sends(c, n), Takes(c, n)} {
		l = l[:cap(l)]
		for i := range l {
			l[i] = -77
		}
	}
}

// R2, LANGUAGE 7: what is answered is the caller's, and no answer shares with another one.
func TestAnswers(t *testing.T) {
	c := whole()
	for _, v := range c.VLs {
		first, _ := VL(c, v.ID)
		second, _ := VL(c, v.ID)
		clear(first.To[:cap(first.To)])
		if !reflect.DeepEqual(second, v) || !reflect.DeepEqual(c, whole()) {
			t.Errorf("%d: %v, %v", v.ID, second, c)
		}
	}
	for host := range 4 {
		for _, ask := range []func(api.Config, int) []int{Sends, Takes} {
			first, second := ask(c, host), ask(c, host)
			third := slices.Clone(second)
			clear(first[:cap(first)])
			if !slices.Equal(second, third) || !slices.Equal(ask(c, host), third) {
				t.Errorf("%d: %v; want %v", host, second, third)
			}
		}
	}
}
