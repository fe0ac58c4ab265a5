package subvl

import (
	"go/ast"
	"go/parser"
	"go/token"
	"strconv"
	"testing"

	"pitot/api"
)

// noise is numbers that look like none, the same ones each time.
type noise uint64

func (x *noise) next() int {
	*x = *x*6364136223846793005 + 1442695040888963407
	return int(*x >> 33)
}

// among is one of few numbers.
func (x *noise) among(l ...int) int { return l[x.next()%len(l)] }

// slow is what the chapter's words say of queues: one list of all texts, each with its queue, and whose turn it is.
type slow struct {
	many, depth, turn int
	l                 []held
}

type held struct {
	i    int
	text string
}

func (s *slow) len(i int) int {
	n := 0
	for _, h := range s.l {
		if h.i == i {
			n++
		}
	}
	return n
}

func (s *slow) push(i int, l ...string) api.Errno {
	if i < 0 || i >= s.many {
		return api.ErrArg
	}
	if s.len(i)+len(l) > s.depth {
		return api.ErrFull
	}
	for _, text := range l {
		s.l = append(s.l, held{i, text})
	}
	return api.OK
}

func (s *slow) pop() (int, string, api.Errno) {
	if len(s.l) == 0 {
		return 0, "", api.ErrEmpty
	}
	for s.len(s.turn) == 0 {
		s.step()
	}
	var l []held
	var first *held
	for _, h := range s.l {
		if h.i == s.turn && first == nil {
			first = &h
		} else {
			l = append(l, h)
		}
	}
	s.l = l
	s.step()
	return first.i, first.text, api.OK
}

func (s *slow) step() {
	if s.turn++; s.turn == s.many {
		s.turn = 0
	}
}

// fresh is so many texts that no other one is like.
func (x *noise) fresh(many int) []string {
	l := make([]string, many)
	for i := range l {
		l[i] = strconv.Itoa(x.next()) + "." + strconv.Itoa(i)
	}
	return l
}

// same holds what is told of queues to what the slow ones tell.
func same(t *testing.T, q *Queues, s *slow) {
	t.Helper()
	for i := -1; i <= s.many; i++ {
		if n := q.Len(i); n != s.len(i) {
			t.Fatal(i, n, s.len(i))
		}
	}
	if q.All() != len(s.l) {
		t.Fatal(q.All(), len(s.l))
	}
}

// P13.1, P13.2, R1, R3: whatever is asked is answered as the chapter's words say, call by call.
func TestAsTheWordsSay(t *testing.T) {
	x := noise(1)
	times := map[api.Errno]int{}
	for range 300 {
		many, depth := 1+x.next()%4, x.among(1, 2, 3, 5, 9)
		q, s := mustNew(t, many, depth), &slow{many: many, depth: depth}
		other := mustNew(t, many, depth) // which knows nothing of the first one
		eager := x.among(1, 2, 3)        // how often it is put against how often it is taken
		for range 150 {
			if x.next()%40 == 0 {
				q.Clear()
				s.l, s.turn = nil, 0
			}
			if x.next()%4 < eager {
				i, l := x.next()%(many+1)-x.next()%20/19, x.fresh(x.among(0, 1, 1, 2, depth, depth+1))
				code := s.push(i, l...)
				times[code]++
				wantPush(t, q, code, i, l...)
			} else {
				wantI, want, code := s.pop()
				times[code]++
				if i, text, wrong := q.Pop(); i != wantI || text != want || wrong != code {
					t.Fatal(i, text, int(wrong), wantI, want, int(code))
				}
			}
			same(t, q, s)
		}
		wantNoPop(t, other, api.ErrEmpty)
	}
	for _, e := range []api.Errno{api.OK, api.ErrArg, api.ErrFull, api.ErrEmpty} {
		if times[e] < 100 {
			t.Error("few of", int(e), times[e])
		}
	}
}

// journey is what is known of a text on its way: how many were ahead of it, and how many Pops it has seen.
type journey struct {
	ahead, pops int
}

// P13.3: each queue's texts come out in order, each once, and none waits for more than its Pops.
func TestEachComesInTime(t *testing.T) {
	x := noise(2)
	longest := 0
	for range 60 {
		many, depth := 1+x.next()%4, x.among(1, 2, 7, 20)
		q := mustNew(t, many, depth)
		var order [4][]string
		way := map[string]*journey{}
		for range 400 {
			if i := x.next() % many; x.next()%3 > 0 {
				l := x.fresh(x.among(1, 2, 3))
				n := q.Len(i)
				if q.Push(i, l...) == api.OK {
					for k, text := range l {
						way[text] = &journey{ahead: n + k}
					}
					order[i] = append(order[i], l...)
				}
				continue
			}
			i, text, wrong := q.Pop()
			if wrong == api.ErrEmpty && len(way) == 0 {
				continue
			}
			if wrong != api.OK || i < 0 || i >= many || len(order[i]) == 0 || order[i][0] != text {
				t.Fatal(i, text, int(wrong))
			}
			order[i] = order[i][1:]
			for _, w := range way {
				w.pops++
			}
			if w := way[text]; w.pops > many*(w.ahead+1) {
				t.Fatal(many, *w)
			} else if many > 1 && w.pops == many*(w.ahead+1) {
				longest++
			}
			delete(way, text)
		}
		if len(way) != q.All() {
			t.Fatal(len(way), q.All())
		}
	}
	if longest < 20 {
		t.Error("few waited for as long as one may:", longest)
	}
}

// P13.3: between two Pops of a queue that has texts all along no other one comes twice.
func TestNoOtherOneTwice(t *testing.T) {
	x := noise(3)
	for range 100 {
		many := 2 + x.next()%3
		q := mustNew(t, many, 6)
		steady := x.next() % many
		wantPush(t, q, api.OK, steady, x.fresh(6)...)
		var since [4]int // Pops of each queue since the last one of the steady one
		for range 200 {
			if i := x.next() % many; i != steady && x.next()%3 > 0 {
				q.Push(i, x.fresh(1)...)
				continue
			}
			i, _, wrong := q.Pop()
			if wrong != api.OK || i < 0 || i >= many {
				t.Fatal(i, int(wrong))
			}
			if since[i]++; i == steady {
				since = [4]int{}
				wantPush(t, q, api.OK, steady, x.fresh(1)...)
			} else if since[i] > 1 {
				t.Fatal(many, steady, i)
			}
		}
	}
}

// The ways of the layer: texts are variadic, and the queues stand in an array of slices.
func TestWays(t *testing.T) {
	file, err := parser.ParseFile(token.NewFileSet(), "subvl.go", nil, 0)
	if err != nil {
		t.Fatal(err)
	}
	variadic, array := false, false
	ast.Inspect(file, func(n ast.Node) bool {
		switch x := n.(type) {
		case *ast.Ellipsis:
			variadic = true
		case *ast.ArrayType:
			slice, ok := x.Elt.(*ast.ArrayType)
			array = array || x.Len != nil && ok && slice.Len == nil
		}
		return true
	})
	if !variadic || !array {
		t.Error(variadic, array)
	}
}
