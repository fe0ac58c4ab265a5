package bits

import (
	"slices"
	"strings"

	"pitot/api"
)

// pieceSize is how many bytes short pieces are gathered up to: each byte is copied
// but a few times, however many are written.
const pieceSize = 64

// piece is bytes that are written, and those ahead of them. It is never changed, so
// that copies of a Writer share pieces and still do not write into each other.
type piece struct {
	text  string
	ahead *piece
}

// Writer is bytes that are written, the highest ones first.
type Writer struct {
	ahead *piece
	last  string
	wrong bool
}

// U8 writes a number in one byte.
func (w *Writer) U8(n int) { w.Bits([]int{8}, n) }

// U16 writes a number in two bytes.
func (w *Writer) U16(n int) { w.Bits([]int{16}, n) }

// U32 writes a number in four bytes.
func (w *Writer) U32(n int) { w.Bits([]int{32}, n) }

// Text writes bytes.
func (w *Writer) Text(s string) {
	if w == nil || w.wrong {
		return
	}
	if len(w.last)+len(s) > pieceSize {
		w.ahead = &piece{text: w.last, ahead: w.ahead}
		w.last = ""
	}
	w.last += s
}

// Bits writes numbers in one, two or four bytes, each so many bits wide.
func (w *Writer) Bits(wide []int, l ...int) {
	if w == nil || w.wrong {
		return
	}
	long, ok := together(wide)
	if !ok || len(wide) != len(l) {
		w.fail()
		return
	}
	var all uint32
	for i, n := range l {
		if !has(n, wide[i]) {
			w.fail()
			return
		}
		all = all<<wide[i] | uint32(n)
	}
	w.Text(spread(all, long))
}

// fail lets go of all bytes too: none of them can be answered any more.
func (w *Writer) fail() { *w = Writer{wrong: true} }

// Bytes is what was written.
func (w *Writer) Bytes() (string, api.Errno) {
	if w == nil {
		return "", api.ErrNil
	}
	if w.wrong {
		return "", api.ErrArg
	}
	texts := []string{w.last}
	for p := w.ahead; p != nil; p = p.ahead {
		texts = append(texts, p.text)
	}
	slices.Reverse(texts)
	return strings.Join(texts, ""), api.OK
}

// spread is a number in so many bytes.
func spread(n uint32, long int) string {
	b := make([]byte, long)
	for i := range b {
		b[i] = byte(n >> (8 * (long - 1 - i)))
	}
	return string(b)
}
