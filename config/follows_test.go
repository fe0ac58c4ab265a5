package config

import (
	"go/ast"
	"go/parser"
	"go/token"
	"math"
	"reflect"
	"slices"
	"testing"

	"pitot/api"
	"pitot/frag"
	"pitot/ipv4"
	"pitot/udp"
)

// noise is numbers that look like none, the same ones each time.
type noise uint64

func (x *noise) next() int {
	*x = *x*6364136223846793005 + 1442695040888963407
	return int(*x >> 33)
}

// among is one of few numbers.
func (x *noise) among(l ...int) int { return l[x.next()%len(l)] }

// once tells true once in so many times.
func (x *noise) once(in int) bool { return x.next()%in == 0 }

// some is those of a list that chance takes, in their order.
func (x *noise) some(l []int) []int {
	return slices.DeleteFunc(slices.Clone(l), func(int) bool { return x.once(2) })
}

// network is one that may be, or nearly so.
func (x *noise) network() api.Config {
	c := api.Config{Hosts: 1 + x.next()%5, Major: x.among(1, 50, 50, 1<<30)}
	for range x.next() % 8 {
		c.Parts = append(c.Parts, x.next()%c.Hosts)
	}
	x.windows(&c)
	for id := range x.among(0, 1, 2, 3, 4, 5, 6, 14) {
		x.link(&c, 3*id+1+x.next()%3)
	}
	for id := range x.next() % 9 {
		x.port(&c, 3*id+1+x.next()%3)
	}
	return c
}

func (x *noise) windows(c *api.Config) {
	ends := map[int]int{}
	for range x.next() % 9 {
		if len(c.Parts) == 0 {
			return
		}
		w := api.Window{Part: x.next() % len(c.Parts), Long: 1 + x.next()%10}
		host := c.Parts[w.Part]
		w.Begin = ends[host] + x.among(0, 0, 1, 2)
		if x.once(20) {
			w.Begin--
		}
		if w.Begin+w.Long > c.Major && !x.once(20) {
			continue
		}
		ends[host] = w.Begin + w.Long
		c.Wins = append(c.Wins, w)
	}
}

func (x *noise) link(c *api.Config, id int) {
	v := api.VL{ID: id, Host: x.next() % c.Hosts, Bag: x.next() % 8, Smax: x.among(64, 65, 100, 1518, 1518), High: x.once(2), Subs: 1 + x.next()%4, Skew: x.next() % 1000}
	for to := range c.Hosts {
		if to != v.Host && !x.once(3) {
			v.To = append(v.To, to)
		}
	}
	if len(v.To) > 0 || x.once(20) {
		c.VLs = append(c.VLs, v)
	}
}

func (x *noise) port(c *api.Config, id int) {
	if len(c.Parts) == 0 || len(c.VLs) == 0 {
		return
	}
	v := c.VLs[x.next()%len(c.VLs)]
	part := x.next() % len(c.Parts)
	p := api.Port{ID: id, Host: c.Parts[part], Part: part, Kind: 1 + x.next()%2, VL: v.ID, UDP: x.next() % 4}
	p.Out = p.Host == v.Host
	if p.Out {
		p.Sub = x.next() % v.Subs
	} else if !slices.Contains(v.To, p.Host) && !x.once(20) {
		return
	}
	if p.Kind == api.Queuing {
		p.Size, p.Depth = x.among(1, 8192, v.Smax), 1+x.next()%64
	} else {
		p.Size = x.among(1, v.Smax-48, v.Smax-47, v.Smax-47-x.next()%10)
		if x.once(50) {
			p.Size = v.Smax - 46
		}
		if !p.Out {
			p.Fresh = 1 + x.next()%100
		}
	}
	c.Ports = append(c.Ports, p)
}

// number is one of those that stand at edges, or near what there was.
func (x *noise) number(was int) int {
	return x.among(was+1, was-1, was+1, was-1, -was, 0, 1, -1, 2, 3, 4, 5, 7, 8, 63, 64, 65, 1518, 1519, 8192, 8193, 65535, 65536, 1<<30, 1<<30+1, 1<<40, 1<<40+1, math.MaxInt, math.MinInt)
}

// spoil turns one number of a network.
func (x *noise) spoil(c *api.Config) {
	turn := func(n *int) { *n = x.number(*n) }
	switch i := x.next(); x.next() % 12 {
	case 0:
		turn(x.place(&c.Hosts, &c.Major))
	case 1:
		if len(c.Parts) > 0 {
			turn(&c.Parts[i%len(c.Parts)])
		}
	case 2, 3:
		if len(c.Wins) > 0 {
			w := &c.Wins[i%len(c.Wins)]
			turn(x.place(&w.Part, &w.Begin, &w.Long))
		}
	case 4, 5, 6:
		if len(c.VLs) > 0 {
			v := &c.VLs[i%len(c.VLs)]
			turn(x.place(&v.ID, &v.Host, &v.Bag, &v.Smax, &v.Subs, &v.Skew))
		}
	case 7:
		if len(c.VLs) > 0 {
			v := &c.VLs[i%len(c.VLs)]
			v.To = slices.Insert(v.To, x.next()%(len(v.To)+1), x.number(v.Host))
		}
	default:
		if len(c.Ports) > 0 {
			p := &c.Ports[i%len(c.Ports)]
			turn(x.place(&p.ID, &p.Host, &p.Part, &p.Kind, &p.VL, &p.Sub, &p.UDP, &p.Size, &p.Depth, &p.Fresh))
			p.Out = p.Out != x.once(5)
		}
	}
}

func (x *noise) place(l ...*int) *int { return l[x.next()%len(l)] }

// said is one thing that the chapter's words name, and its error.
type said struct {
	wrong bool
	code  api.Errno
}

// first is the error of what is named first of what is wrong.
func first(l ...said) api.Errno {
	for _, s := range l {
		if s.wrong {
			return s.code
		}
	}
	return api.OK
}

// out tells whether a number is not from one to another one.
func out(n, least, most int) bool { return float64(n) < float64(least) || float64(n) > float64(most) }

// slowCheck is what the chapter's words say of Check, with nothing that hastens it.
func slowCheck(c api.Config) (Fault, api.Errno) {
	type list struct {
		long  int
		fault func(i int) api.Errno
	}
	for what, l := range []list{
		{1, func(int) api.Errno { return first(said{out(c.Hosts, 1, 64), api.ErrArg}) }},
		{len(c.Parts), func(i int) api.Errno { return first(said{i == 64 || out(c.Parts[i], 0, c.Hosts-1), api.ErrArg}) }},
		{1, func(int) api.Errno { return first(said{out(c.Major, 1, 1073741824), api.ErrArg}) }},
		{len(c.Wins), func(i int) api.Errno { return slowWindow(c, i) }},
		{len(c.VLs), func(i int) api.Errno { return slowVL(c, i) }},
		{len(c.Ports), func(i int) api.Errno { return slowPort(c, i) }},
		{c.Hosts, func(i int) api.Errno { return first(said{slowJitter(c, i) > 6250, api.ErrRate}) }},
	} {
		for i := range l.long {
			if e := l.fault(i); e != api.OK {
				return Fault{what + 1, i}, e
			}
		}
	}
	return Fault{}, api.OK
}

func slowWindow(c api.Config, i int) api.Errno {
	w := c.Wins[i]
	if e := first(
		said{i == 256, api.ErrArg},
		said{out(w.Part, 0, len(c.Parts)-1), api.ErrArg},
		said{w.Begin < 0, api.ErrArg},
		said{w.Long < 1, api.ErrArg},
		said{float64(w.Begin)+float64(w.Long) > float64(c.Major), api.ErrArg}); e != api.OK {
		return e
	}
	for k := i - 1; k >= 0; k-- {
		if b := c.Wins[k]; c.Parts[b.Part] == c.Parts[w.Part] {
			return first(said{w.Begin < b.Begin+b.Long, api.ErrOrder})
		}
	}
	return api.OK
}

func slowVL(c api.Config, i int) api.Errno {
	v := c.VLs[i]
	falls, strange := false, false
	for k, to := range v.To {
		falls = falls || k > 0 && to <= v.To[k-1]
		strange = strange || out(to, 0, c.Hosts-1) || to == v.Host
	}
	return first(
		said{i == 256, api.ErrArg},
		said{out(v.ID, 1, 65535), api.ErrArg},
		said{out(v.Host, 0, c.Hosts-1), api.ErrArg},
		said{out(v.Bag, 0, 7), api.ErrArg},
		said{out(v.Smax, 64, 1518), api.ErrArg},
		said{out(v.Subs, 1, 4), api.ErrArg},
		said{out(v.Skew, 0, 1073741824), api.ErrArg},
		said{len(v.To) == 0, api.ErrArg},
		said{i > 0 && v.ID <= c.VLs[max(i, 1)-1].ID, api.ErrOrder},
		said{falls, api.ErrOrder},
		said{strange, api.ErrNone})
}

func slowPort(c api.Config, i int) api.Errno {
	p := c.Ports[i]
	host := -1
	if p.Part >= 0 && p.Part < len(c.Parts) {
		host = c.Parts[p.Part]
	}
	var v api.VL
	for _, l := range c.VLs {
		if l.ID == p.VL {
			v = l
		}
	}
	twice := false
	for _, q := range c.Ports[:i] {
		twice = twice || q.Host == p.Host && q.Out == p.Out && q.VL == p.VL && q.UDP == p.UDP
	}
	queuing, sampling := p.Kind == 2, p.Kind == 1
	return first(
		said{i == 512, api.ErrArg},
		said{p.ID < 1, api.ErrArg},
		said{!sampling && !queuing, api.ErrArg},
		said{host < 0, api.ErrArg},
		said{out(p.UDP, 0, 65535), api.ErrArg},
		said{out(p.Size, 1, 8192), api.ErrArg},
		said{i > 0 && p.ID <= c.Ports[max(i, 1)-1].ID, api.ErrOrder},
		said{p.Host != host, api.ErrNone},
		said{v.ID == 0, api.ErrNone},
		said{p.Out && v.Host != p.Host, api.ErrNone},
		said{p.Out && out(p.Sub, 0, v.Subs-1), api.ErrArg},
		said{!p.Out && !slices.Contains(v.To, p.Host), api.ErrNone},
		said{!p.Out && p.Sub != 0, api.ErrArg},
		said{queuing && out(p.Depth, 1, 64), api.ErrArg},
		said{queuing && p.Fresh != 0, api.ErrArg},
		said{sampling && p.Depth != 0, api.ErrArg},
		said{sampling && p.Out && p.Fresh != 0, api.ErrArg},
		said{sampling && !p.Out && out(p.Fresh, 1, 1099511627776), api.ErrArg},
		said{sampling && p.Size > v.Smax-47, api.ErrLong},
		said{twice, api.ErrTwice})
}

func slowJitter(c api.Config, host int) int {
	n := 500
	for _, v := range c.VLs {
		if v.Host == host {
			n += v.Smax + 20
		}
	}
	return n
}

// wantFinds holds all that is asked of a network, that may be or not, against the chapter's words.
func wantFinds(t *testing.T, c api.Config, n int) {
	t.Helper()
	sends, takes := map[int]bool{}, map[int]bool{}
	var link *api.VL
	for i, v := range c.VLs {
		if v.Host == n {
			sends[v.ID] = true
		}
		if slices.Contains(v.To, n) {
			takes[v.ID] = true
		}
		if v.ID == n && link == nil {
			link = &c.VLs[i]
		}
	}
	for k, ids := range []map[int]bool{sends, takes} {
		l := []func(api.Config, int) []int{Sends, Takes}[k](c, n)
		for i, id := range l {
			if !ids[id] || i > 0 && id <= l[i-1] {
				t.Errorf("%d, %d: %v; want %v", k, n, l, ids)
			}
		}
		if len(l) != len(ids) {
			t.Errorf("%d, %d: %v; want %v", k, n, l, ids)
		}
	}
	if v, is := VL(c, n); is != (link != nil) || is && !reflect.DeepEqual(v, *link) || !is && !reflect.DeepEqual(v, api.VL{}) {
		t.Errorf("%d: %v, %v", n, v, is)
	}
	i := slices.IndexFunc(c.Ports, func(p api.Port) bool { return p.ID == n })
	if p, is := Port(c, n); is != (i >= 0) || is && p != c.Ports[i] || !is && p != (api.Port{}) {
		t.Errorf("%d: %v, %v", n, p, is)
	}
	if j := Jitter(c, n); j != slowJitter(c, n) {
		t.Errorf("%d: %d", n, j)
	}
}

// P10.1 to P10.4, R1 to R3: whatever a network is, all calls answer as the chapter's words say, each time, and leave it as it is.
func TestAsTheWordsSay(t *testing.T) {
	x := noise(1)
	type kind struct {
		what int
		code api.Errno
	}
	times := map[kind]int{}
	for range 60000 {
		c := x.network()
		for range x.among(0, 1, 1, 2, 3) {
			x.spoil(&c)
		}
		was := copied(c)
		f, code := slowCheck(c)
		times[kind{f.What, code}]++
		want(t, c, c, f.What, f.At, code)
		n := x.among(0, 1, 2, 3, 4, 5, 6, 9, -1, math.MaxInt, math.MinInt)
		wantFinds(t, c, n)
		if again, wrong := Check(c); again != f || wrong != code || !reflect.DeepEqual(c, was) {
			t.Fatalf("%v, %v, %d; was %v, %v, %d", c, again, int(wrong), was, f, int(code))
		}
	}
	for _, k := range []kind{{0, api.OK}, {Hosts, api.ErrArg}, {Parts, api.ErrArg}, {Frame, api.ErrArg}, {Wins, api.ErrArg}, {Wins, api.ErrOrder},
		{VLs, api.ErrArg}, {VLs, api.ErrOrder}, {VLs, api.ErrNone}, {Ports, api.ErrArg}, {Ports, api.ErrOrder}, {Ports, api.ErrNone},
		{Ports, api.ErrLong}, {Ports, api.ErrTwice}, {Jitters, api.ErrRate}} {
		if times[k] < 100 {
			t.Error("few of", k.what, int(k.code), times[k])
		}
	}
}

// P10.5: what follows of each network that may be.
func TestFollows(t *testing.T) {
	x := noise(2)
	may, ports, pairs, samples := 0, 0, 0, 0
	for range 40000 {
		c := x.network()
		for range x.next() % 2 {
			x.spoil(&c)
		}
		if _, wrong := Check(c); wrong != api.OK {
			continue
		}
		may++
		ports += len(c.Ports)
		for _, p := range c.Ports {
			v, is := VL(c, p.VL)
			if !is || p.Out && !slices.Contains(Sends(c, p.Host), p.VL) || !p.Out && !slices.Contains(Takes(c, p.Host), p.VL) {
				t.Fatal(c, p)
			}
			if p.Kind == api.Sampling {
				samples++
				wantOneFrame(t, p.Size, v.Smax)
			}
		}
		pairs += wantApart(t, c)
	}
	if may < 10000 || ports < 10000 || pairs < 10000 || samples < 10000 {
		t.Error("few:", may, ports, pairs, samples)
	}
}

// wantOneFrame is a message of so many bytes that goes into one frame.
func wantOneFrame(t *testing.T, size, smax int) {
	t.Helper()
	data, wrong := udp.Encode(udp.Ends{}, string(make([]byte, size)))
	if wrong != api.OK {
		t.Fatal(int(wrong))
	}
	if l, wrong := frag.Split(ipv4.Packet{TTL: 1, Proto: 17, Data: data}, smax); len(l) != 1 || wrong != api.OK {
		t.Errorf("%d bytes in frames of %d: %d, %d", size, smax, len(l), int(wrong))
	}
}

// wantApart is windows of which no two of a host are open at the same time; it answers how many such pairs there are.
func wantApart(t *testing.T, c api.Config) int {
	t.Helper()
	pairs := 0
	for i, w := range c.Wins {
		if w.Begin < 0 || w.Long < 1 || w.Begin+w.Long > c.Major {
			t.Fatal(c, w)
		}
		for _, b := range c.Wins[:i] {
			if c.Parts[w.Part] != c.Parts[b.Part] {
				continue
			}
			pairs++
			if w.Begin < b.Begin+b.Long && b.Begin < w.Begin+w.Long {
				t.Fatal(c, w, b)
			}
		}
	}
	return pairs
}

// P10.3, P10.5: Largest is just what one frame carries.
func TestLargestIsOneFrame(t *testing.T) {
	for smax := api.MinFrame; smax <= api.MaxFrame; smax++ {
		wantOneFrame(t, Largest(smax), smax)
		if n, wrong := frag.Count(8+Largest(smax)+1, smax); n != 2 || wrong != api.OK {
			t.Errorf("%d: %d, %d", smax, n, int(wrong))
		}
	}
}

// The ways of the layer: what a fault is of is an iota, and ports are told apart by structs that are keys of a map.
func TestWays(t *testing.T) {
	structs, maps, iotas := map[string]bool{}, map[string]bool{}, 0
	for _, name := range []string{"config.go", "check.go"} {
		file, err := parser.ParseFile(token.NewFileSet(), name, nil, 0)
		if err != nil {
			t.Fatal(err)
		}
		ast.Inspect(file, func(n ast.Node) bool {
			switch x := n.(type) {
			case *ast.TypeSpec:
				_, is := x.Type.(*ast.StructType)
				structs[x.Name.Name] = is
			case *ast.MapType:
				if key, ok := x.Key.(*ast.Ident); ok {
					maps[key.Name] = true
				}
			case *ast.Ident:
				if x.Name == "iota" {
					iotas++
				}
			}
			return true
		})
	}
	keys := 0
	for name := range maps {
		if structs[name] {
			keys++
		}
	}
	if iotas == 0 || keys == 0 {
		t.Error("iotas, maps by structs:", iotas, keys)
	}
}
