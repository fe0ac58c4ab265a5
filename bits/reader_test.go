package bits

import (
	"slices"
	"testing"

	"pitot/api"
)

func wantState(t *testing.T, name string, r *Reader, left int, code api.Errno) {
	t.Helper()
	if r.Left() != left || r.Err() != code {
		t.Errorf("%s: %d left, %d; want %d, %d", name, r.Left(), int(r.Err()), left, int(code))
	}
}

// P1.2: numbers and texts are read one behind the other.
func TestReaderReads(t *testing.T) {
	r := Read("\xff\x01\x02\xfe\xdc\xba\x98ab\x45\x3f\xff\x80\x00\x00\x01\xff\xff\xff\xffrest")
	wantState(t, "at first", r, 24, api.OK)
	if n := r.U8(); n != 255 {
		t.Error("U8", n)
	}
	if n := r.U16(); n != 258 {
		t.Error("U16", n)
	}
	if n := r.U32(); n != 0xfedcba98 {
		t.Error("U32", n)
	}
	if s := r.Text(2); s != "ab" {
		t.Error("Text", s)
	}
	wantState(t, "amid", r, 15, api.OK)
	if l := r.Bits(4, 4); !slices.Equal(l, []int{4, 5}) {
		t.Error("Bits of 8", l)
	}
	if l := r.Bits(1, 1, 1, 13); !slices.Equal(l, []int{0, 0, 1, 8191}) {
		t.Error("Bits of 16", l)
	}
	if l := r.Bits(1, 31); !slices.Equal(l, []int{1, 1}) {
		t.Error("Bits of 32", l)
	}
	if l := r.Bits(32); !slices.Equal(l, []int{1<<32 - 1}) {
		t.Error("Bits of 32, one number", l)
	}
	if s := r.Text(0); s != "" {
		t.Error("no Text", s)
	}
	wantState(t, "ahead of the rest", r, 4, api.OK)
	if s := r.Rest(); s != "rest" {
		t.Error("Rest", s)
	}
	wantState(t, "behind the rest", r, 0, api.OK)
	if s := r.Rest() + r.Text(0); s != "" {
		t.Error("Rest of nothing", s)
	}
	wantState(t, "at last", r, 0, api.OK)
}

// P1.2: as many bytes as are asked for are enough.
func TestReaderEdges(t *testing.T) {
	for _, c := range []struct {
		name string
		long int
		do   func(r *Reader)
	}{
		{"U8", 1, func(r *Reader) { r.U8() }},
		{"U16", 2, func(r *Reader) { r.U16() }},
		{"U32", 4, func(r *Reader) { r.U32() }},
		{"Text", 5, func(r *Reader) { r.Text(5) }},
		{"Bits of 8", 1, func(r *Reader) { r.Bits(3, 5) }},
		{"Bits of 16", 2, func(r *Reader) { r.Bits(3, 13) }},
		{"Bits of 32", 4, func(r *Reader) { r.Bits(3, 29) }},
	} {
		r := Read("abcdef"[:c.long])
		c.do(r)
		wantState(t, c.name, r, 0, api.OK)
		r = Read("abcdef"[:c.long+1])
		c.do(r)
		wantState(t, c.name+", more there", r, 1, api.OK)
		r = Read("abcdef"[:c.long-1])
		c.do(r)
		wantState(t, c.name+", one too few", r, c.long-1, api.ErrShort)
	}
}

// wantStopped holds a reader against what was wrong with it first, whatever is asked of it then.
func wantStopped(t *testing.T, name string, r *Reader, left int, code api.Errno) {
	t.Helper()
	for range 2 {
		wantState(t, name, r, left, code)
		if n := r.U8() + r.U16() + r.U32(); n != 0 {
			t.Error(name, n)
		}
		if s := r.Text(1) + r.Text(0) + r.Text(-1) + r.Text(1<<62) + r.Rest(); s != "" {
			t.Error(name, s)
		}
		if len(r.Bits(8)) != 0 || len(r.Bits(9)) != 0 || len(r.Bits()) != 0 {
			t.Error(name, "Bits")
		}
	}
	wantState(t, name+", at last", r, left, code)
}

// P1.2: what was wrong first stays, and nothing is read from then on.
func TestReaderRefuses(t *testing.T) {
	many := make([]int, 1000)
	for i := range many {
		many[i] = 32
	}
	for _, c := range []struct {
		name string
		do   func(r *Reader) bool
		left int
		code api.Errno
	}{
		{"U32", func(r *Reader) bool { return r.U32() == 0 }, 3, api.ErrShort},
		{"U16 at the end", func(r *Reader) bool { return r.U16() == 0x6162 && r.U16() == 0 }, 1, api.ErrShort},
		{"U8 at the end", func(r *Reader) bool { return r.Rest() == "abc" && r.U8() == 0 }, 0, api.ErrShort},
		{"Text too long", func(r *Reader) bool { return r.Text(4) == "" }, 3, api.ErrShort},
		{"longest Text", func(r *Reader) bool { return r.Text(1<<63-1) == "" }, 3, api.ErrShort},
		{"Text below 0", func(r *Reader) bool { return r.Text(-1) == "" }, 3, api.ErrArg},
		{"least Text", func(r *Reader) bool { return r.Text(-1<<63) == "" }, 3, api.ErrArg},
		{"Text below 0 at the end", func(r *Reader) bool { return r.Rest() == "abc" && r.Text(-1) == "" }, 0, api.ErrArg},
		{"Bits of 32", func(r *Reader) bool { return len(r.Bits(16, 16)) == 0 }, 3, api.ErrShort},
		{"no widths", func(r *Reader) bool { return len(r.Bits()) == 0 }, 3, api.ErrArg},
		{"width 0", func(r *Reader) bool { return len(r.Bits(0, 8)) == 0 }, 3, api.ErrArg},
		{"width below 0", func(r *Reader) bool { return len(r.Bits(-1, 9)) == 0 }, 3, api.ErrArg},
		{"width 33", func(r *Reader) bool { return len(r.Bits(33, -1)) == 0 }, 3, api.ErrArg},
		{"widths that wrap round", func(r *Reader) bool { return len(r.Bits(1<<63-1, 1<<63-1, 10)) == 0 }, 3, api.ErrArg},
		{"7 bits", func(r *Reader) bool { return len(r.Bits(7)) == 0 }, 3, api.ErrArg},
		{"9 bits", func(r *Reader) bool { return len(r.Bits(4, 5)) == 0 }, 3, api.ErrArg},
		{"24 bits", func(r *Reader) bool { return len(r.Bits(8, 16)) == 0 }, 3, api.ErrArg},
		{"64 bits: not so many bytes either", func(r *Reader) bool { return len(r.Bits(32, 32)) == 0 }, 3, api.ErrArg},
		{"many bits", func(r *Reader) bool { return len(r.Bits(many...)) == 0 }, 3, api.ErrArg},
		{"wrong widths at the end", func(r *Reader) bool { return r.Rest() == "abc" && len(r.Bits(9)) == 0 }, 0, api.ErrArg},
	} {
		r := Read("abc")
		if !c.do(r) {
			t.Error(c.name, "answers something")
		}
		wantStopped(t, c.name, r, c.left, c.code)
	}
}

// P1.2, R1: a nil reader, and the zero one, which has no bytes.
func TestReaderNil(t *testing.T) {
	wantStopped(t, "nil", nil, 0, api.ErrNil)
	r := &Reader{}
	wantState(t, "zero", r, 0, api.OK)
	if r.Rest() != "" || r.U8() != 0 {
		t.Error("zero")
	}
	wantState(t, "zero, read", r, 0, api.ErrShort)
}

// R2: widths stay as they are, and the numbers that are answered are the caller's.
func TestReaderLists(t *testing.T) {
	back := []int{4, 4, 16, 99}
	r := Read("\x45\x67")
	l := r.Bits(back[:2]...)
	l[0], l[1] = 9, 9
	if m := r.Bits(back[:2]...); !slices.Equal(m, []int{6, 7}) || !slices.Equal(l, []int{9, 9}) {
		t.Error(l, m)
	}
	if !slices.Equal(back, []int{4, 4, 16, 99}) {
		t.Error(back)
	}
}

// R3: readers of one text, and copies of a reader, do not know of each other.
func TestReaderAlone(t *testing.T) {
	const text = "abc"
	a, b := Read(text), Read(text)
	a.U16()
	c := *a
	a.Text(-1)
	wantState(t, "a", a, 1, api.ErrArg)
	wantState(t, "b", b, 3, api.OK)
	wantState(t, "c", &c, 1, api.OK)
	if b.U8() != 'a' || c.U8() != 'c' {
		t.Error("reads another one's")
	}
}
