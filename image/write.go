package image

import (
	"pitot/api"
	"pitot/bits"
)

// write writes a network that may be.
func write(w *bits.Writer, c api.Config) {
	w.Text(begin)
	w.U16(c.Hosts)
	writeList(w, c.Parts, w.U16)
	w.U32(c.Major)
	writeList(w, c.Wins, func(x api.Window) { writeWindow(w, x) })
	writeList(w, c.VLs, func(v api.VL) { writeVL(w, v) })
	writeList(w, c.Ports, func(p api.Port) { writePort(w, p) })
}

// writeList writes how many there are of a kind, and each of them.
func writeList[T any](w *bits.Writer, l []T, put func(one T)) {
	w.U16(len(l))
	for _, one := range l {
		put(one)
	}
}

func writeWindow(w *bits.Writer, x api.Window) {
	w.U16(x.Part)
	w.U32(x.Begin)
	w.U32(x.Long)
}

func writeVL(w *bits.Writer, v api.VL) {
	w.U16(v.ID)
	w.U16(v.Host)
	w.Bits(linkWide(), v.Bag, bit(v.High), v.Subs)
	w.U16(v.Smax)
	w.U32(v.Skew)
	writeList(w, v.To, w.U16)
}

func writePort(w *bits.Writer, p api.Port) {
	w.U32(p.ID)
	w.U16(p.Host)
	w.U16(p.Part)
	w.Bits(portWide(), p.Kind, bit(p.Out), p.Sub)
	w.U16(p.VL)
	w.U16(p.UDP)
	w.U16(p.Size)
	w.U16(p.Depth)
	w.U32(p.Fresh >> halfWide)
	w.U32(p.Fresh & lowerHalf)
}

func bit(is bool) int {
	if is {
		return 1
	}
	return 0
}
