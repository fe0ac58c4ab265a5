package image

import (
	"pitot/api"
	"pitot/bits"
)

// read reads a network, whether it may be or not. Of what is read at once, the calls
// are made in the order in which they stand.
func read(r *bits.Reader) api.Config {
	return api.Config{
		Hosts: r.U16(),
		Parts: readList(r, r.U16),
		Major: r.U32(),
		Wins:  readList(r, func() api.Window { return readWindow(r) }),
		VLs:   readList(r, func() api.VL { return readVL(r) }),
		Ports: readList(r, func() api.Port { return readPort(r) }),
	}
}

// readList reads how many there are of a kind, and each of them.
func readList[T any](r *bits.Reader, next func() T) []T {
	var l []T
	for range r.U16() {
		// A few bytes may say that much more follows: the list is no longer than
		// what is there.
		if r.Err() != api.OK {
			break
		}
		l = append(l, next())
	}
	return l
}

func readWindow(r *bits.Reader) api.Window {
	return api.Window{Part: r.U16(), Begin: r.U32(), Long: r.U32()}
}

func readVL(r *bits.Reader) api.VL {
	v := api.VL{ID: r.U16(), Host: r.U16()}
	n := readByte(r, linkWide())
	v.Bag, v.High, v.Subs = n[0], n[1] == 1, n[2]
	v.Smax, v.Skew, v.To = r.U16(), r.U32(), readList(r, r.U16)
	return v
}

func readPort(r *bits.Reader) api.Port {
	p := api.Port{ID: r.U32(), Host: r.U16(), Part: r.U16()}
	n := readByte(r, portWide())
	p.Kind, p.Out, p.Sub = n[0], n[1] == 1, n[2]
	p.VL, p.UDP, p.Size, p.Depth = r.U16(), r.U16(), r.U16(), r.U16()
	p.Fresh = r.U32()<<halfWide | r.U32()
	return p
}

// readByte reads the three numbers of one byte. They are copied, as a reader at whose
// end nothing is left answers no list of three.
func readByte(r *bits.Reader, wide []int) [3]int {
	var l [3]int
	copy(l[:], r.Bits(wide...))
	return l
}
