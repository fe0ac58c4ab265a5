package bits

import (
	"slices"
	"strings"
	"testing"

	"pitot/api"
)

func wantBytes(t *testing.T, name string, w *Writer, want string, code api.Errno) {
	t.Helper()
	if s, e := w.Bytes(); s != want || e != code {
		t.Errorf("%s: %x, %d; want %x, %d", name, s, int(e), want, int(code))
	}
}

// P1.1: what is right is put behind what is there.
func TestWriterPuts(t *testing.T) {
	for _, c := range []struct {
		name string
		do   func(w *Writer)
		want string
	}{
		{"zero Writer", func(w *Writer) {}, ""},
		{"U8 least", func(w *Writer) { w.U8(0) }, "\x00"},
		{"U8 greatest", func(w *Writer) { w.U8(255) }, "\xff"},
		{"U16 of the chapter", func(w *Writer) { w.U16(258) }, "\x01\x02"},
		{"U16 least", func(w *Writer) { w.U16(0) }, "\x00\x00"},
		{"U16 greatest", func(w *Writer) { w.U16(65535) }, "\xff\xff"},
		{"U32", func(w *Writer) { w.U32(0x01020304) }, "\x01\x02\x03\x04"},
		{"U32 least", func(w *Writer) { w.U32(0) }, "\x00\x00\x00\x00"},
		{"U32 greatest", func(w *Writer) { w.U32(1<<32 - 1) }, "\xff\xff\xff\xff"},
		{"no Text", func(w *Writer) { w.Text("") }, ""},
		{"Text of all kinds of bytes", func(w *Writer) { w.Text("a\x00\xff\xc3") }, "a\x00\xff\xc3"},
		{"all behind each other", func(w *Writer) { w.U8(1); w.Text("xy"); w.U16(2); w.Bits([]int{8}, 3); w.U32(4) }, "\x01xy\x00\x02\x03\x00\x00\x00\x04"},
		{"Bits of the chapter", func(w *Writer) { w.Bits([]int{4, 4}, 4, 5) }, "\x45"},
		{"Bits of 8, one wide", func(w *Writer) { w.Bits([]int{1, 1, 1, 1, 1, 1, 1, 1}, 1, 0, 1, 1, 0, 0, 1, 0) }, "\xb2"},
		{"Bits of 16", func(w *Writer) { w.Bits([]int{1, 1, 1, 13}, 0, 0, 1, 8191) }, "\x3f\xff"},
		{"Bits of 32, one number", func(w *Writer) { w.Bits([]int{32}, 1<<32-1) }, "\xff\xff\xff\xff"},
		{"Bits of 32, two numbers", func(w *Writer) { w.Bits([]int{1, 31}, 1, 1) }, "\x80\x00\x00\x01"},
		{"Bits over a byte's edge", func(w *Writer) { w.Bits([]int{5, 11, 16}, 1, 2, 3) }, "\x08\x02\x00\x03"},
	} {
		w := &Writer{}
		c.do(w)
		wantBytes(t, c.name, w, c.want, api.OK)
		wantBytes(t, c.name+", asked again", w, c.want, api.OK)
	}
}

// P1.1: from what is wrong on nothing is put, whatever was there and whatever comes.
func TestWriterRefuses(t *testing.T) {
	many := make([]int, 1000)
	for i := range many {
		many[i] = 32
	}
	for _, c := range []struct {
		name string
		do   func(w *Writer)
	}{
		{"U8 above", func(w *Writer) { w.U8(256) }},
		{"U8 below", func(w *Writer) { w.U8(-1) }},
		{"U16 above", func(w *Writer) { w.U16(65536) }},
		{"U16 below", func(w *Writer) { w.U16(-1) }},
		{"U32 above", func(w *Writer) { w.U32(1 << 32) }},
		{"U32 below", func(w *Writer) { w.U32(-1) }},
		{"U32 greatest int", func(w *Writer) { w.U32(1<<63 - 1) }},
		{"U32 least int", func(w *Writer) { w.U32(-1 << 63) }},
		{"first number too great", func(w *Writer) { w.Bits([]int{4, 4}, 16, 0) }},
		{"last number too great", func(w *Writer) { w.Bits([]int{4, 4}, 0, 16) }},
		{"number below 0", func(w *Writer) { w.Bits([]int{4, 4}, -1, 0) }},
		{"number of 32 too great", func(w *Writer) { w.Bits([]int{32}, 1<<32) }},
		{"too few numbers", func(w *Writer) { w.Bits([]int{4, 4}, 1) }},
		{"too many numbers", func(w *Writer) { w.Bits([]int{4, 4}, 1, 1, 1) }},
		{"no numbers", func(w *Writer) { w.Bits([]int{8}) }},
		{"no widths", func(w *Writer) { w.Bits(nil, 1) }},
		{"nothing", func(w *Writer) { w.Bits(nil) }},
		{"nothing, not nil", func(w *Writer) { w.Bits([]int{}) }},
		{"width 0", func(w *Writer) { w.Bits([]int{0, 8}, 0, 1) }},
		{"width below 0", func(w *Writer) { w.Bits([]int{-1, 9}, 0, 1) }},
		{"width 33", func(w *Writer) { w.Bits([]int{33, -1}, 0, 0) }},
		{"widths that wrap round", func(w *Writer) { w.Bits([]int{1<<63 - 1, 1<<63 - 1, 10}, 0, 0, 0) }},
		{"least width", func(w *Writer) { w.Bits([]int{-1 << 63}, 0) }},
		{"7 bits", func(w *Writer) { w.Bits([]int{3, 4}, 1, 1) }},
		{"9 bits", func(w *Writer) { w.Bits([]int{4, 5}, 1, 1) }},
		{"24 bits", func(w *Writer) { w.Bits([]int{8, 16}, 1, 1) }},
		{"40 bits", func(w *Writer) { w.Bits([]int{8, 32}, 1, 1) }},
		{"64 bits", func(w *Writer) { w.Bits([]int{32, 32}, 1, 1) }},
		{"many bits", func(w *Writer) { w.Bits(many, many...) }},
	} {
		w := &Writer{}
		c.do(w)
		wantBytes(t, c.name, w, "", api.ErrArg)
		w = &Writer{}
		w.U8(7)
		w.Text(strings.Repeat("x", 1000))
		c.do(w)
		w.U8(1)
		w.U16(1)
		w.U32(1)
		w.Text("y")
		w.Bits([]int{8}, 1)
		wantBytes(t, c.name+" amid others", w, "", api.ErrArg)
	}
}

// P1.1, R1: of a nil Writer nothing is done.
func TestWriterNil(t *testing.T) {
	var w *Writer
	w.U8(1)
	w.U16(-1)
	w.U32(1)
	w.Text("x")
	w.Bits([]int{4, 4}, 1)
	w.Bits(nil)
	wantBytes(t, "nil", w, "", api.ErrNil)
}

// P1.1: pieces of all lengths come out in the order in which they went in.
func TestWriterLong(t *testing.T) {
	for _, step := range []int{1, 2, 3, 7, 63, 64, 65, 127, 1000} {
		w, want := &Writer{}, strings.Builder{}
		for i := range 300 {
			s := strings.Repeat(string(rune('a'+i%26)), i%step)
			w.Text(s)
			w.U8(i % 256)
			want.WriteString(s)
			want.WriteByte(byte(i))
		}
		wantBytes(t, "long", w, want.String(), api.OK)
	}
}

// R1: each call ends soon, however much was written ahead of it.
func TestWriterMany(t *testing.T) {
	w := &Writer{}
	const many = 1 << 20
	for i := range many {
		w.U16(i % 65536)
	}
	s, e := w.Bytes()
	if len(s) != 2*many || e != api.OK {
		t.Fatal(len(s), int(e))
	}
	for i := range many {
		if int(s[2*i])<<8|int(s[2*i+1]) != i%65536 {
			t.Fatal(i)
		}
	}
}

// R2: the lists that are handed in stay as they are, behind their length too.
func TestWriterLeavesArguments(t *testing.T) {
	back := []int{4, 4, 8, 9}
	nums := []int{1, 2, 3, 4}
	w := &Writer{}
	w.Bits(back[:2], nums[:2]...)
	w.Bits(back[1:2], nums[1:3]...)
	if !slices.Equal(back, []int{4, 4, 8, 9}) || !slices.Equal(nums, []int{1, 2, 3, 4}) {
		t.Error(back, nums)
	}
	w = &Writer{}
	wide := []int{8}
	w.Bits(wide, wide...)
	wide[0] = 1
	wantBytes(t, "list changed later", w, "\x08", api.OK)
}

// R3: Writers do not know of each other, nor do copies of one.
func TestWriterAlone(t *testing.T) {
	for _, ahead := range []int{0, 1, 3, 63, 64, 65, 1000} {
		text := strings.Repeat("x", ahead)
		a := &Writer{}
		for range ahead {
			a.Text("x")
		}
		b := *a
		c := *a
		a.U8(1)
		b.U8(2)
		c.U8(256)
		d := *a
		*a = b
		a.U8(3)
		wantBytes(t, "a", a, text+"\x02\x03", api.OK)
		wantBytes(t, "b", &b, text+"\x02", api.OK)
		wantBytes(t, "c", &c, "", api.ErrArg)
		wantBytes(t, "d", &d, text+"\x01", api.OK)
	}
}
