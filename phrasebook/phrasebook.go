// Package phrasebook: phrase books that are looked over before they run: see DOC.md.
package phrasebook

import (
	"phrasebook/api"
	"phrasebook/wire"
)

// Encode makes a pack's bytes (P3).
func Encode(p api.Pack) (string, api.Errno) {
	if !wire.Within(p) {
		return "", api.ErrLimit
	}
	b := wire.Write(p)
	if len(b) > api.MaxBytes {
		return "", api.ErrLimit
	}
	return b, api.OK
}

// Decode makes a pack of bytes (P4).
func Decode(b string) (api.Pack, api.Errno) {
	if len(b) > api.MaxBytes {
		return api.Pack{}, api.ErrLimit
	}
	return read(b)
}

// read catches what gives up while bytes are read: no panic gets past the face.
func read(b string) (p api.Pack, e api.Errno) {
	defer func() {
		if recover() != nil {
			p, e = api.Pack{}, api.ErrBytes
		}
	}()
	return wire.Read(b), api.OK
}
