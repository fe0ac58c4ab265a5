package bag

import (
	"go/ast"
	"go/parser"
	"go/token"
	"testing"

	"pitot/api"
)

// noise is numbers that look like none, the same ones each time.
type noise uint64

func (x *noise) next() int {
	*x = *x*6364136223846793005 + 1442695040888963407
	return int(*x >> 33)
}

// among is one of few numbers.
func (x *noise) among(l ...int) int { return l[x.next()%len(l)] }

// slow is what the chapter's words say of a regulator: all frames that went, and from which on they count.
type slow struct {
	period int
	went   []int
	reset  int
}

func (s *slow) when(now int) int {
	if len(s.went) == s.reset {
		return now
	}
	for s.went[len(s.went)-1]+s.period > now {
		now = s.went[len(s.went)-1] + s.period
	}
	return now
}

func (s *slow) take(now int) api.Errno {
	if now < 0 || now > 1125899906842624 {
		return api.ErrArg
	}
	if n := len(s.went); n > 0 {
		if now < s.went[n-1] {
			return api.ErrTime
		}
		if n > s.reset && now-s.went[n-1] < s.period {
			return api.ErrRate
		}
	}
	s.went = append(s.went, now)
	return api.OK
}

// tick is one that a regulator may well be asked of: near the last frame, or near what may be.
func (x *noise) tick(s *slow) int {
	if x.next()%200 == 0 {
		return 1125899906842624 + x.among(1, 2, s.period)
	}
	at := 0
	if len(s.went) > 0 {
		at = s.went[len(s.went)-1]
	}
	return at + x.among(-s.period, -1, 0, 1, s.period/2, s.period-1, s.period, s.period, s.period+1, 2*s.period-1, 3*s.period)
}

// P12.1, P12.2, R1, R3: whatever is asked, and whenever, is answered as the chapter's words say, call by call.
func TestAsTheWordsSay(t *testing.T) {
	x := noise(1)
	times := map[api.Errno]int{}
	for range 200 {
		bag := x.next() % 8
		r, s := mustNew(t, bag), &slow{period: periods[bag]}
		other := mustNew(t, bag) // which knows nothing of the first one
		for range 200 {
			if x.next()%12 == 0 {
				r.Reset()
				s.reset = len(s.went)
			}
			now := x.tick(s)
			wantWhen(t, r, now, s.when(now))
			code := s.take(now)
			times[code]++
			wantTake(t, r, now, code)
			wantCount(t, r, len(s.went))
			if t.Failed() {
				t.FailNow()
			}
		}
		wantWhen(t, other, 3, 3)
		wantCount(t, other, 0)
	}
	for _, e := range []api.Errno{api.OK, api.ErrArg, api.ErrTime, api.ErrRate} {
		if times[e] < 100 {
			t.Error("few of", int(e), times[e])
		}
	}
}

// P12.4: a frame that goes as soon as When says goes, and goes no sooner.
func TestAsSoonAsWhen(t *testing.T) {
	x := noise(2)
	for bag, period := range periods {
		r := mustNew(t, bag)
		now := 0
		for i := range 300 {
			at := r.When(now)
			if at > now {
				wantTake(t, r, at-1, api.ErrRate)
			}
			wantTake(t, r, at, api.OK)
			wantCount(t, r, i+1)
			now = at + x.among(0, 1, period-1, period, period+1, 2*period)
		}
	}
}

// P12.4: in no interval do more frames go than Bound, and in some as many.
func TestNoMoreThanBound(t *testing.T) {
	x := noise(3)
	for bag, period := range periods {
		r := mustNew(t, bag)
		var went []int
		now := 0
		for range 300 {
			if r.Take(now) == api.OK {
				went = append(went, now)
			}
			if now += x.among(0, 1, 1, period/2, period-1, period); x.next()%3 == 0 {
				now = r.When(now)
			}
		}
		full := 0
		for i := range went {
			for j := i; j < len(went); j++ {
				most, wrong := Bound(bag, went[j]-went[i]+1) // the shortest interval with both
				if wrong != api.OK || j-i+1 > most {
					t.Fatal(bag, went[i], went[j], j-i+1, most)
				}
				if j > i && j-i+1 == most {
					full++
				}
			}
		}
		if full < 10 {
			t.Error(bag, "few intervals are full:", full)
		}
	}
}

// P12.4: frames that go as soon as they may are as many as Bound in each interval that begins with one.
func TestBoundIsReached(t *testing.T) {
	x := noise(4)
	for bag, period := range periods {
		for range 100 {
			r := mustNew(t, bag)
			ticks := x.among(0, 1, period, 7*period, x.next()%(20*period))
			begin, n := x.next()%1000, 0
			for at := r.When(begin); at < begin+ticks && !t.Failed(); at = r.When(at) {
				wantTake(t, r, at, api.OK)
				n++
			}
			wantBound(t, bag, ticks, n, api.OK)
		}
	}
}

// P12.3: Bound is the least number of Periods that are as long as the ticks.
func TestBoundAsTheWordsSay(t *testing.T) {
	x := noise(5)
	for range 20000 {
		bag := x.next() % 8
		ticks := x.next() * x.among(1, 1000, 100000)
		n, wrong := Bound(bag, ticks)
		if wrong != api.OK || n*periods[bag] < ticks || (n-1)*periods[bag] >= ticks {
			t.Fatal(bag, ticks, n, int(wrong))
		}
	}
}

// The ways of the layer: the time of the last frame is told by a pointer method of a struct, in which the struct is compared with the zero one.
func TestWays(t *testing.T) {
	file, err := parser.ParseFile(token.NewFileSet(), "bag.go", nil, 0)
	if err != nil {
		t.Fatal(err)
	}
	compared := 0
	for _, d := range file.Decls {
		f, ok := d.(*ast.FuncDecl)
		if !ok || f.Recv == nil {
			continue
		}
		on, ok := f.Recv.List[0].Type.(*ast.StarExpr)
		if !ok {
			continue
		}
		ast.Inspect(f.Body, func(n ast.Node) bool {
			if x, ok := n.(*ast.BinaryExpr); ok && (x.Op == token.EQL || x.Op == token.NEQ) && comparesZero(x, on) {
				compared++
			}
			return true
		})
	}
	if compared == 0 {
		t.Error("no pointer method compares its struct with the zero one")
	}
}

// comparesZero tells whether what is compared is the literal of that struct without a value, with what a pointer is of.
func comparesZero(x *ast.BinaryExpr, on *ast.StarExpr) bool {
	_, star := x.X.(*ast.StarExpr)
	right := x.Y
	if p, ok := right.(*ast.ParenExpr); ok {
		right = p.X
	}
	zero, ok := right.(*ast.CompositeLit)
	if !star || !ok || len(zero.Elts) > 0 {
		return false
	}
	name, ok := zero.Type.(*ast.Ident)
	of, is := on.X.(*ast.Ident)
	return ok && is && name.Name == of.Name
}
