package subvl

import (
	"math"
	"slices"
	"strconv"
	"testing"

	"pitot/api"
)

func mustNew(t *testing.T, many, depth int) *Queues {
	t.Helper()
	q, wrong := New(many, depth)
	if q == nil || wrong != api.OK {
		t.Fatalf("New(%d, %d): %d", many, depth, int(wrong))
	}
	return q
}

func wantPush(t *testing.T, q *Queues, code api.Errno, i int, l ...string) {
	t.Helper()
	if wrong := q.Push(i, l...); wrong != code {
		t.Errorf("Push(%d, %d texts): %d; want %d", i, len(l), int(wrong), int(code))
	}
}

func wantPop(t *testing.T, q *Queues, i int, text string) {
	t.Helper()
	if k, s, wrong := q.Pop(); k != i || s != text || wrong != api.OK {
		t.Errorf("Pop: %d, %q, %d; want %d, %q", k, s, int(wrong), i, text)
	}
}

// wantNoPop holds q to having nothing to take, as often as it is asked.
func wantNoPop(t *testing.T, q *Queues, code api.Errno) {
	t.Helper()
	for range 3 {
		if k, s, wrong := q.Pop(); k != 0 || s != "" || wrong != code {
			t.Errorf("Pop: %d, %q, %d; want %d", k, s, int(wrong), int(code))
		}
	}
}

// wantLens holds each queue's number of texts, and that of all, to those told, and those of queues that there are not to 0.
func wantLens(t *testing.T, q *Queues, lens ...int) {
	t.Helper()
	all := 0
	for i, want := range lens {
		if n := q.Len(i); n != want {
			t.Errorf("Len(%d): %d; want %d", i, n, want)
		}
		all += want
	}
	if n := q.All(); n != all {
		t.Errorf("All: %d; want %d", n, all)
	}
	for _, i := range none(len(lens)) {
		if n := q.Len(i); n != 0 {
			t.Errorf("Len(%d) of %d queues: %d", i, len(lens), n)
		}
	}
}

// none is numbers of which many queues have no queue.
func none(many int) []int {
	return []int{-1, -2, -many, many, many + 1, 5, 256, 1 << 32, -1 << 32, 1<<32 + many - 1, math.MaxInt, math.MinInt}
}

// texts is so many that differ.
func texts(many int) []string {
	l := make([]string, many)
	for i := range l {
		l[i] = "t" + strconv.Itoa(i)
	}
	return l
}

// P13.1: so many queues without texts, each of which has room for as many as it may, and no more.
func TestNew(t *testing.T) {
	for many := 1; many <= 4; many++ {
		for _, depth := range []int{1, 2, 3, 1023, 1024} {
			q := mustNew(t, many, depth)
			wantLens(t, q, make([]int, many)...)
			wantNoPop(t, q, api.ErrEmpty)
			for i := range many {
				wantPush(t, q, api.ErrFull, i, texts(depth+1)...)
				wantPush(t, q, api.OK, i, texts(depth)...)
				wantPush(t, q, api.ErrFull, i, "more")
				if n := q.Len(i); n != depth {
					t.Error(many, depth, i, n)
				}
			}
			wantPop(t, q, 0, "t0") // the turn is that of the queue 0
		}
	}
}

// P13.1, R1: queues that may not be, some of which may if their numbers are cut to fewer bits.
func TestNewArg(t *testing.T) {
	wrong := []int{0, -1, -4, 1 << 32, 1<<32 + 1, 1<<62 + 1, math.MaxInt, math.MinInt, math.MinInt + 1}
	manies, depths := append([]int{5, 257}, wrong...), append([]int{1025, 65537}, wrong...)
	for _, many := range manies {
		for _, depth := range append([]int{1, 512, 1024}, depths...) {
			wantNoQueues(t, many, depth)
		}
	}
	for many := 1; many <= 4; many++ {
		for _, depth := range depths {
			wantNoQueues(t, many, depth)
		}
	}
}

func wantNoQueues(t *testing.T, many, depth int) {
	t.Helper()
	if q, wrong := New(many, depth); q != nil || wrong != api.ErrArg {
		t.Errorf("New(%d, %d): %v, %d", many, depth, q, int(wrong))
	}
}

// P13.1, R2: nil ones.
func TestNil(t *testing.T) {
	var q *Queues
	q.Clear()
	for _, i := range []int{0, 1, 4, -1, math.MaxInt, math.MinInt} {
		wantPush(t, q, api.ErrNil, i)
		wantPush(t, q, api.ErrNil, i, "a", "b")
		if n := q.Len(i); n != 0 {
			t.Error(i, n)
		}
	}
	wantNoPop(t, q, api.ErrNil)
	if n := q.All(); n != 0 {
		t.Error(n)
	}
}

// R1: nor does what New did not make panic.
func TestZero(t *testing.T) {
	q := &Queues{}
	wantPush(t, q, api.ErrArg, 0, "a")
	wantNoPop(t, q, api.ErrEmpty)
	wantLens(t, q)
	q.Clear()
}

// P13.2: the chapter's example.
func TestExample(t *testing.T) {
	q := mustNew(t, 2, 8)
	wantPush(t, q, api.OK, 0, "a", "b")
	wantPush(t, q, api.OK, 1, "c")
	wantPop(t, q, 0, "a")
	wantPop(t, q, 1, "c")
	wantPop(t, q, 0, "b")
	wantNoPop(t, q, api.ErrEmpty)
}

// P13.1, R1: there is no such queue, whatever is to be put, and nothing is changed.
func TestPushArg(t *testing.T) {
	for many := 1; many <= 4; many++ {
		q := mustNew(t, many, 2)
		wantPush(t, q, api.OK, many-1, "a")
		want := make([]int, many)
		want[many-1] = 1
		for _, i := range none(many) {
			wantPush(t, q, api.ErrArg, i)
			wantPush(t, q, api.ErrArg, i, "b")
			wantPush(t, q, api.ErrArg, i, texts(3)...) // ahead of ErrFull
			wantLens(t, q, want...)
		}
		wantPop(t, q, many-1, "a")
		wantNoPop(t, q, api.ErrEmpty)
	}
}

// P13.1, R1: of more texts than there is room for none is put.
func TestPushFull(t *testing.T) {
	q := mustNew(t, 2, 3)
	wantPush(t, q, api.ErrFull, 0, "w", "x", "y", "z")
	wantLens(t, q, 0, 0)
	wantPush(t, q, api.OK, 0, "a", "b")
	wantPush(t, q, api.ErrFull, 0, "x", "y")
	wantLens(t, q, 2, 0)
	wantPush(t, q, api.OK, 1, "m", "n", "o") // one queue's room is not another one's
	wantPush(t, q, api.OK, 0, "c")
	wantPush(t, q, api.ErrFull, 0, "x")
	wantPush(t, q, api.OK, 0) // nothing, for which there is room
	wantLens(t, q, 3, 3)
	wantPop(t, q, 0, "a")
	wantPush(t, q, api.ErrFull, 0, "x", "y")
	wantPush(t, q, api.ErrFull, 1, "x", "y")
	wantPush(t, q, api.OK, 0, "d") // where one has gone there is room again
	wantPush(t, q, api.ErrFull, 0, "x")
	for _, c := range []struct {
		i    int
		text string
	}{{1, "m"}, {0, "b"}, {1, "n"}, {0, "c"}, {1, "o"}, {0, "d"}} {
		wantPop(t, q, c.i, c.text)
	}
	wantNoPop(t, q, api.ErrEmpty)
}

// P13.1: texts stand behind those that are there, in order, whether they are put one by one or at once, and texts without bytes are texts.
func TestPush(t *testing.T) {
	q := mustNew(t, 1, 8)
	wantPush(t, q, api.OK, 0, "a", "", "a")
	wantPush(t, q, api.OK, 0)
	wantPush(t, q, api.OK, 0, "")
	wantPush(t, q, api.OK, 0, "b", "c")
	wantLens(t, q, 6)
	for _, text := range []string{"a", "", "a", "", "b", "c"} {
		wantPop(t, q, 0, text)
	}
	wantNoPop(t, q, api.ErrEmpty)
}

// P13.1, P13.2: a queue that is filled, and emptied, over and over holds as many as ever.
func TestPushAgain(t *testing.T) {
	q := mustNew(t, 2, 5)
	for n := range 40 {
		l := texts(n%5 + 1)
		wantPush(t, q, api.OK, n%2, l...)
		wantPush(t, q, api.ErrFull, n%2, texts(6-len(l))...)
		for _, text := range l {
			wantPop(t, q, n%2, text)
		}
		wantNoPop(t, q, api.ErrEmpty)
	}
}

// R2: what is handed in is not written into, nor kept.
func TestPushMemory(t *testing.T) {
	l := []string{"a", "b", "c", "behind"}
	q := mustNew(t, 2, 8)
	wantPush(t, q, api.OK, 0, l[:2]...)
	wantPush(t, q, api.OK, 1, l[:2]...)
	wantPush(t, q, api.OK, 0, "x")
	wantPop(t, q, 0, "a")
	wantPush(t, q, api.OK, 0, "y")
	if !slices.Equal(l, []string{"a", "b", "c", "behind"}) {
		t.Error(l)
	}
	clear(l)
	wantPop(t, q, 1, "a")
	wantPop(t, q, 0, "b")
	wantPop(t, q, 1, "b")
	wantPop(t, q, 0, "x")
	wantPop(t, q, 0, "y")
}

// P13.2: the turn goes round, from each queue on, past those without texts.
func TestPopRound(t *testing.T) {
	for many := 1; many <= 4; many++ {
		for from := range many {
			for to := range many {
				q := mustNew(t, many, 2)
				wantPush(t, q, api.OK, from, "a")
				wantPop(t, q, from, "a") // the turn is that of the next one
				wantPush(t, q, api.OK, to, "b")
				wantPop(t, q, to, "b")
				for i := range many {
					wantPush(t, q, api.OK, i, "c", "d")
				}
				for k := range 2 * many {
					wantPop(t, q, (to+1+k)%many, []string{"c", "d"}[k/many])
				}
				wantNoPop(t, q, api.ErrEmpty)
			}
		}
	}
}

// P13.2, R1: a Pop that has nothing to take leaves the turn as it is, and so does a Push.
func TestPopEmpty(t *testing.T) {
	q := mustNew(t, 3, 2)
	wantPush(t, q, api.OK, 0, "a")
	wantPop(t, q, 0, "a")
	wantNoPop(t, q, api.ErrEmpty)
	wantPush(t, q, api.ErrFull, 2, "x", "y", "z")
	wantPush(t, q, api.OK, 0, "b")
	wantPush(t, q, api.OK, 1, "c")
	wantPush(t, q, api.OK, 2, "d")
	wantPop(t, q, 1, "c")
	wantPop(t, q, 2, "d")
	wantPop(t, q, 0, "b")
	wantNoPop(t, q, api.ErrEmpty)
}

// P13.2: Clear takes all out, and the turn is that of the queue 0 again.
func TestClear(t *testing.T) {
	for turn := range 3 {
		q := mustNew(t, 3, 3)
		for i := range turn {
			wantPush(t, q, api.OK, i, "gone")
			wantPop(t, q, i, "gone")
		}
		wantPush(t, q, api.OK, 1, "x", "y", "z")
		wantPush(t, q, api.OK, 2, "x")
		q.Clear()
		q.Clear()
		wantLens(t, q, 0, 0, 0)
		wantNoPop(t, q, api.ErrEmpty)
		wantPush(t, q, api.ErrFull, 1, texts(4)...)
		wantPush(t, q, api.OK, 2, "c")
		wantPush(t, q, api.OK, 1, "b", "e", "f")
		wantPush(t, q, api.OK, 0, "a")
		wantLens(t, q, 1, 3, 1)
		wantPop(t, q, 0, "a")
		wantPop(t, q, 1, "b")
		wantPop(t, q, 2, "c")
		wantPop(t, q, 1, "e")
		wantPop(t, q, 1, "f")
		wantNoPop(t, q, api.ErrEmpty)
	}
}

// P13.2: what is asked of lengths changes nothing.
func TestLen(t *testing.T) {
	q := mustNew(t, 4, 1024)
	for i := range 4 {
		wantPush(t, q, api.OK, i, texts(1024)...)
	}
	wantLens(t, q, 1024, 1024, 1024, 1024)
	for k := range 4*1024 - 2 {
		wantPop(t, q, k%4, "t"+strconv.Itoa(k/4))
	}
	wantLens(t, q, 0, 0, 1, 1)
	wantPop(t, q, 2, "t1023")
	wantPop(t, q, 3, "t1023")
	wantLens(t, q, 0, 0, 0, 0)
	wantNoPop(t, q, api.ErrEmpty)
}
