package addr

import (
	"bytes"
	"slices"
)

// Book is what is known of addresses.
type Book struct {
	noted map[MAC]int
}

// Put notes a number for an address; it answers the elder one.
func (b *Book) Put(m MAC, n int) (int, bool) {
	if b == nil {
		return 0, false
	}
	if b.noted == nil {
		b.noted = map[MAC]int{}
	}
	elder, had := b.noted[m]
	b.noted[m] = n
	return elder, had
}

// Get is the number of an address.
func (b *Book) Get(m MAC) (int, bool) {
	if b == nil {
		return 0, false
	}
	n, is := b.noted[m]
	return n, is
}

// Drop forgets an address.
func (b *Book) Drop(m MAC) bool {
	_, was := b.Get(m)
	if was {
		delete(b.noted, m)
	}
	return was
}

// All is all addresses, rising.
func (b *Book) All() []MAC {
	if b == nil {
		return nil
	}
	var l []MAC
	for m := range b.noted {
		l = append(l, m)
	}
	slices.SortFunc(l, func(x, y MAC) int { return bytes.Compare(x[:], y[:]) })
	return l
}
