package wire

import (
	"errors"
	"strings"

	"phrasebook/api"
)

var errNoPack = errors.New("wire: not the bytes of a pack within the limits")

// Read makes a pack of its bytes. It panics if they are not the bytes of a pack within the limits:
// who calls it catches that.
func Read(b string) api.Pack {
	r := &reader{rest: unseal(b)}
	if r.take(len(head)) != head {
		panic(errNoPack)
	}
	var p api.Pack
	p.Strings = list(r, r.text)
	p.Phrases = list(r, r.phrase)
	if r.rest != "" || !Within(p) {
		panic(errNoPack)
	}
	return p
}

// unseal takes the sum off.
func unseal(b string) string {
	n := len(b) - sumBytes
	if n < 0 || b[n:] != sum(b[:n]) {
		panic(errNoPack)
	}
	return b[:n]
}

// reader: the bytes that are still to be read.
type reader struct {
	rest string
}

func (r *reader) take(n int) string {
	if n > len(r.rest) {
		panic(errNoPack)
	}
	s := r.rest[:n]
	r.rest = r.rest[n:]
	return s
}

func (r *reader) octet() int {
	return int(r.take(1)[0])
}

// number reads a U. It looks at five bytes at most: more than these are never needed,
// and their bits would be shifted out of an int unseen.
func (r *reader) number() int {
	n := 0
	for shift := 0; shift < 35; shift += 7 {
		b := r.octet()
		n |= (b & 127) << shift
		if b > 127 {
			continue
		}
		if n > mostNumber || b == 0 && shift > 0 {
			panic(errNoPack)
		}
		return n
	}
	panic(errNoPack)
}

// text copies, so that what is answered shares no memory with what was handed in.
func (r *reader) text() string {
	return strings.Clone(r.take(r.number()))
}

func (r *reader) ins() api.Ins {
	var c api.Ins
	c.Op = r.octet()
	c.A = r.number()
	c.B = r.number()
	return c
}

func (r *reader) phrase() api.Phrase {
	var f api.Phrase
	f.Name = r.text()
	f.Args = list(r, r.octet)
	f.Code = list(r, r.ins)
	return f
}

// list reads how many items there are, and the items. It makes no room ahead: the number may be
// any, but each item takes a byte at least, so a wrong one soon finds no more bytes.
func list[T any](r *reader, item func() T) []T {
	var all []T
	for range r.number() {
		all = append(all, item())
	}
	return all
}
