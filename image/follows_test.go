package image

import (
	"go/ast"
	"go/parser"
	"go/token"
	"slices"
	"testing"

	"pitot/api"
	"pitot/config"
)

// noise is numbers that look like none, the same ones each time.
type noise uint64

func (x *noise) next() int {
	*x = *x*6364136223846793005 + 1442695040888963407
	return int(*x >> 33)
}

// among is one of few numbers.
func (x *noise) among(l ...int) int { return l[x.next()%len(l)] }

// network is one that may be.
func (x *noise) network() api.Config {
	c := api.Config{Hosts: x.among(1, 2, 3, 5, 64), Major: x.among(1, 50, 1000, 1<<30)}
	for range x.next() % 6 {
		c.Parts = append(c.Parts, x.next()%c.Hosts)
	}
	for end := 0; len(c.Parts) > 0 && end < c.Major && x.next()%5 > 0; {
		w := api.Window{Part: x.next() % len(c.Parts), Begin: end, Long: 1 + x.next()%(c.Major-end)}
		c.Wins = append(c.Wins, w)
		end += w.Long + x.next()%2
	}
	id := 0
	for range x.next() % 4 {
		id += x.among(1, 2, 255, 256, 20000)
		x.link(&c, id)
	}
	x.ports(&c)
	return c
}

func (x *noise) link(c *api.Config, id int) {
	v := api.VL{ID: id, Host: x.next() % c.Hosts, Bag: x.next() % 8, Smax: x.among(64, 100, 1517, 1518), High: x.next()%2 == 0, Subs: 1 + x.next()%4, Skew: x.among(0, 1, 70000, 1<<30)}
	for to := range c.Hosts {
		if to != v.Host && x.next()%3 > 0 {
			v.To = append(v.To, to)
		}
	}
	if len(v.To) > 0 {
		c.VLs = append(c.VLs, v)
	}
}

// ports gives some partitions an end of some links.
func (x *noise) ports(c *api.Config) {
	id := 0
	for part, host := range c.Parts {
		for _, v := range c.VLs {
			out := host == v.Host
			if x.next()%4 == 0 || !out && !slices.Contains(v.To, host) {
				continue
			}
			id += x.among(1, 2, 1000, 1<<24)
			p := api.Port{ID: id, Host: host, Part: part, Kind: 1 + x.next()%2, Out: out, VL: v.ID, UDP: 65535 - len(c.Ports)}
			if out {
				p.Sub = x.next() % v.Subs
			}
			switch {
			case p.Kind == api.Queuing:
				p.Size, p.Depth = x.among(1, 17, 300, 8192), 1+x.next()%64
			case out:
				p.Size = 1 + x.next()%17
			default:
				p.Size, p.Fresh = v.Smax-47, x.among(1, 1000, 1<<32-1, 1<<32, 1<<40)
			}
			c.Ports = append(c.Ports, p)
		}
	}
}

// spoil is a text with a few bytes that are others, or more, or fewer.
func (x *noise) spoil(s string) string {
	b := []byte(s)
	for range x.among(1, 1, 1, 2, 3) {
		at := x.next() % len(b)
		switch x.next() % 12 {
		case 0:
			b = b[:1+at]
		case 1:
			b = append(b, byte(x.next()))
		case 2:
			b = slices.Delete(b, at, at+1)
			b = append(b, 0)
		case 3:
			b = slices.Insert(b, at, byte(x.next()))
		default:
			b[at] = byte(x.among(int(b[at])+1, int(b[at])-1, 0, 1, 255, int(b[at])^(1<<(x.next()%8)), x.next()))
		}
	}
	return string(b)
}

// cursor is bytes that are read; it panics where there are too few, and with an error's number where one is told at once.
type cursor struct{ rest string }

func (c *cursor) number(long int) int {
	n := uint64(0)
	for i := range long {
		n = n*256 + uint64(c.rest[i])
	}
	c.rest = c.rest[long:]
	return int(n)
}

func (c *cursor) numbers() []int {
	var l []int
	for range c.number(2) {
		l = append(l, c.number(2))
	}
	return l
}

// slowLoad is what the chapter's words say of Load.
func slowLoad(s string) (c api.Config, code api.Errno) {
	if len(s) < 4 {
		return c, api.ErrShort
	}
	text := s[:len(s)-4]
	if sealed(text) != s {
		return c, api.ErrSum
	}
	if len(text) < 6 {
		return c, api.ErrShort
	}
	if text[:6] != "AFDX\x00\x01" {
		return c, api.ErrKind
	}
	defer func() {
		switch x := recover().(type) {
		case nil:
		case api.Errno:
			c, code = api.Config{}, x
		default:
			c, code = api.Config{}, api.ErrShort
		}
	}()
	r := &cursor{text[6:]}
	c = r.network()
	if len(r.rest) > 0 {
		return api.Config{}, api.ErrLong
	}
	if _, e := config.Check(c); e != api.OK {
		return api.Config{}, e
	}
	return c, api.OK
}

// network is the network that is read.
func (c *cursor) network() api.Config {
	x := api.Config{}
	x.Hosts = c.number(2)
	x.Parts = c.numbers()
	x.Major = c.number(4)
	for range c.number(2) {
		w := api.Window{}
		w.Part = c.number(2)
		w.Begin = c.number(4)
		w.Long = c.number(4)
		x.Wins = append(x.Wins, w)
	}
	for range c.number(2) {
		v := api.VL{}
		v.ID = c.number(2)
		v.Host = c.number(2)
		b := c.number(1)
		v.Bag, v.High, v.Subs = b/16, b/8%2 == 1, b%8
		v.Smax = c.number(2)
		v.Skew = c.number(4)
		v.To = c.numbers()
		x.VLs = append(x.VLs, v)
	}
	for range c.number(2) {
		p := api.Port{}
		p.ID = c.number(4)
		p.Host = c.number(2)
		p.Part = c.number(2)
		b := c.number(1)
		p.Kind, p.Out, p.Sub = b/64, b/32%2 == 1, b%32
		p.VL = c.number(2)
		p.UDP = c.number(2)
		p.Size = c.number(2)
		p.Depth = c.number(2)
		p.Fresh = c.number(8)
		if p.Fresh < 0 || p.Fresh > 1<<40 {
			panic(api.ErrArg)
		}
		x.Ports = append(x.Ports, p)
	}
	return x
}

// P11.1, P11.2, P11.3, T1: what was encoded is loaded, as the chapter's words go.
func TestEncodedIsLoaded(t *testing.T) {
	x := noise(1)
	ports, links, wins := 0, 0, 0
	for range 5000 {
		c := x.network()
		if _, e := config.Check(c); e != api.OK {
			t.Fatalf("%+v: %d", c, int(e))
		}
		was := told(c)
		wantImage(t, "noise", c, sealed(plain(c)))
		if told(c) != was {
			t.Fatalf("%+v; was %s", c, was)
		}
		ports, links, wins = ports+len(c.Ports), links+len(c.VLs), wins+len(c.Wins)
	}
	if ports < 4000 || links < 4000 || wins < 4000 {
		t.Error("few:", ports, links, wins)
	}
}

// P11.2, P11.3, T1: whatever bytes there are, they are loaded as the chapter's words go; what is loaded may be, and is encoded as the same bytes.
func TestLoadedIsEncoded(t *testing.T) {
	x := noise(2)
	times := map[api.Errno]int{}
	for range 60000 {
		s := sealed(x.spoil(plain(x.network())))
		want, code := slowLoad(s)
		times[code]++
		c, e := Load(s)
		if e != code || told(c) != told(want) {
			t.Fatalf("%x: %+v, %d; want %+v, %d", s, c, int(e), want, int(code))
		}
		if e != api.OK {
			continue
		}
		if _, e := config.Check(c); e != api.OK {
			t.Fatalf("%+v: %d", c, int(e))
		}
		if again, e := Encode(c); again != s || e != api.OK {
			t.Fatalf("%x: %x, %d", s, again, int(e))
		}
	}
	for _, code := range []api.Errno{api.OK, api.ErrShort, api.ErrLong, api.ErrKind, api.ErrArg, api.ErrOrder, api.ErrNone} {
		if times[code] < 300 {
			t.Error("few of", int(code), times[code])
		}
	}
}

// R1: bytes that are nothing at all are answered too.
func TestAnyBytes(t *testing.T) {
	x := noise(3)
	for range 20000 {
		b := make([]byte, x.next()%80)
		for i := range b {
			b[i] = byte(x.among(0, 0, 0, 1, 2, 255, x.next()))
		}
		for _, s := range []string{string(b), sealed(string(b)), sealed("AFDX\x00\x01" + string(b)), sealed("AFDX\x00\x01\x00\x02\x00\x01\x00\x00\x00\x00\x00\x01" + string(b))} {
			want, code := slowLoad(s)
			if c, e := Load(s); e != code || told(c) != told(want) {
				t.Fatalf("%x: %+v, %d; want %+v, %d", s, c, int(e), want, int(code))
			}
		}
	}
}

// The ways of the layer: all kinds are put into lists by one generic function, and numbers of one byte are copied into an array.
func TestWays(t *testing.T) {
	makes, calls, literals, arrays := map[string]bool{}, map[string]int{}, 0, 0
	for _, name := range []string{"image.go", "read.go"} {
		file, err := parser.ParseFile(token.NewFileSet(), name, nil, 0)
		if err != nil {
			t.Fatal(err)
		}
		ast.Inspect(file, func(n ast.Node) bool {
			switch x := n.(type) {
			case *ast.FuncDecl:
				makes[x.Name.Name] = x.Type.TypeParams != nil
			case *ast.FuncLit:
				literals++
			case *ast.CallExpr:
				f, ok := x.Fun.(*ast.Ident)
				if !ok {
					break
				}
				calls[f.Name]++
				if f.Name != "copy" {
					break
				}
				if _, slice := x.Args[0].(*ast.SliceExpr); slice {
					arrays++
				}
			}
			return true
		})
	}
	lists := 0
	for name, generic := range makes {
		if generic {
			lists = max(lists, calls[name])
		}
	}
	if lists < 5 || literals < 3 || arrays == 0 {
		t.Error("lists, function literals, copies into arrays:", lists, literals, arrays)
	}
}
