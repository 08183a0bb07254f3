// Package phrasebook: phrase books that are looked over before they run: see DOC.md.
package phrasebook

import (
	"phrasebook/api"
	"phrasebook/wire"
)

// Book is one that was loaded.
type Book struct{}

// Encode makes a pack's bytes (P3).
func Encode(p api.Pack) (string, api.Errno) {
	if !wire.Within(p) {
		return "", api.ErrLimit
	}
	b := wire.Write(p)
	if len(b) > api.MaxBytes {
		return "", api.ErrLimit
	}
	return b, api.OK
}

// Decode makes a pack of bytes (P4).
func Decode(b string) (api.Pack, api.Errno) {
	if len(b) > api.MaxBytes {
		return api.Pack{}, api.ErrLimit
	}
	return read(b)
}

// read catches what gives up while bytes are read: no panic gets past the face.
func read(b string) (p api.Pack, e api.Errno) {
	defer func() {
		if recover() != nil {
			p, e = api.Pack{}, api.ErrBytes
		}
	}()
	return wire.Read(b), api.OK
}

// Load loads a book (P5, P6).
func Load(b string) (*Book, api.Errno, api.Fault) { return nil, api.OK, api.Fault{} }

// Names tells the phrases (P7).
func (b *Book) Names() []string { return nil }

// Bound tells how large a phrase can become (P8).
func (b *Book) Bound(name string) (api.Bound, api.Errno) { return api.Bound{}, api.OK }

// Format runs a phrase (P9, P10).
func (b *Book) Format(name string, args []api.Value) (string, api.Errno) { return "", api.OK }
