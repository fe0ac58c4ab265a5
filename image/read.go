package image

import (
	"pitot/api"
	"pitot/bits"
)

// reader is an image's bytes, with what is wrong with a number of them, whatever stands
// behind it.
type reader struct {
	*bits.Reader
	wrong api.Errno
}

// Err is what was wrong first. A number is judged only if no byte was missing so far, so
// that wrong stands ahead of what the bytes' own reader tells.
func (r *reader) Err() api.Errno {
	if r.wrong != api.OK {
		return r.wrong
	}
	return r.Reader.Err()
}

// read reads a network, whether it may be or not. Of what is read at once, the calls
// are made in the order in which they stand.
func read(r *reader) api.Config {
	return api.Config{
		Hosts: r.U16(),
		Parts: readList(r, r.U16),
		Major: r.U32(),
		Wins:  readList(r, func() api.Window { return readWindow(r) }),
		VLs:   readList(r, func() api.VL { return readVL(r) }),
		Ports: readList(r, func() api.Port { return readPort(r) }),
	}
}

// readList reads how many there are of a kind, and each of them.
func readList[T any](r *reader, next func() T) []T {
	var l []T
	for range r.U16() {
		// A few bytes may say that much more follows: the list is no longer than
		// what is there, and nothing is read behind a number that is wrong.
		if r.Err() != api.OK {
			break
		}
		l = append(l, next())
	}
	return l
}

func readWindow(r *reader) api.Window {
	return api.Window{Part: r.U16(), Begin: r.U32(), Long: r.U32()}
}

func readVL(r *reader) api.VL {
	v := api.VL{ID: r.U16(), Host: r.U16()}
	n := readByte(r, linkWide())
	v.Bag, v.High, v.Subs = n[0], n[1] == 1, n[2]
	v.Smax, v.Skew, v.To = r.U16(), r.U32(), readList(r, r.U16)
	return v
}

func readPort(r *reader) api.Port {
	p := api.Port{ID: r.U32(), Host: r.U16(), Part: r.U16()}
	n := readByte(r, portWide())
	p.Kind, p.Out, p.Sub = n[0], n[1] == 1, n[2]
	p.VL, p.UDP, p.Size, p.Depth = r.U16(), r.U16(), r.U16(), r.U16()
	p.Fresh = readFresh(r)
	return p
}

// readFresh reads a number of eight bytes. It is judged at once, as what stands behind
// it, or is missing there, does not count; of one that is not all there nothing is known.
func readFresh(r *reader) int {
	n := r.U32()<<halfWide | r.U32()
	if r.Err() == api.OK && tooFresh(n) {
		r.wrong = api.ErrArg
	}
	return n
}

// tooFresh tells whether a Fresh is one of no port at all. The highest bit of eight
// bytes is an int's sign, so a number that has it is taken without one.
func tooFresh(n int) bool { return uint64(n) > longestFresh }

// readByte reads the three numbers of one byte. They are copied, as a reader at whose
// end nothing is left answers no list of three.
func readByte(r *reader, wide []int) [3]int {
	var l [3]int
	copy(l[:], r.Bits(wide...))
	return l
}
