package bits

import "pitot/api"

// Reader is bytes that are read, the highest ones first.
type Reader struct {
	rest string
	err  api.Errno
}

// Read is a reader of bytes.
func Read(s string) *Reader { return &Reader{rest: s} }

// U8 reads a number of one byte.
func (r *Reader) U8() int { return int(gather(r.Text(1))) }

// U16 reads a number of two bytes.
func (r *Reader) U16() int { return int(gather(r.Text(2))) }

// U32 reads a number of four bytes.
func (r *Reader) U32() int { return int(gather(r.Text(4))) }

// Text reads so many bytes.
func (r *Reader) Text(n int) string {
	if r.Err() != api.OK {
		return ""
	}
	if n < 0 {
		r.err = api.ErrArg
		return ""
	}
	if n > len(r.rest) {
		r.err = api.ErrShort
		return ""
	}
	s := r.rest[:n]
	r.rest = r.rest[n:]
	return s
}

// Bits reads numbers, each so many bits wide.
func (r *Reader) Bits(wide ...int) []int {
	if r.Err() != api.OK {
		return nil
	}
	long, ok := together(wide)
	if !ok {
		r.err = api.ErrArg
		return nil
	}
	all := gather(r.Text(long))
	if r.err != api.OK {
		return nil
	}
	l := make([]int, len(wide))
	behind := 8 * long
	for i, w := range wide {
		behind -= w
		// Of a width of 32 the one is shifted out, and the mask is all bits.
		l[i] = int(all >> behind & (uint32(1)<<w - 1))
	}
	return l
}

// Rest reads all that is left.
func (r *Reader) Rest() string { return r.Text(r.Left()) }

// Left is how many bytes are left.
func (r *Reader) Left() int {
	if r == nil {
		return 0
	}
	return len(r.rest)
}

// Err is what was wrong.
func (r *Reader) Err() api.Errno {
	if r == nil {
		return api.ErrNil
	}
	return r.err
}

// gather is the number that bytes are; of none it is 0.
func gather(s string) uint32 {
	var n uint32
	for i := 0; i < len(s); i++ {
		n = n<<8 | uint32(s[i])
	}
	return n
}
