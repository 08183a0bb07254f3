package phrasebook

import (
	"phrasebook/api"
	"phrasebook/run"
)

// Format runs a phrase (P9, P10).
func (b *Book) Format(name string, args []api.Value) (string, api.Errno) {
	f, ok := b.find(name)
	if !ok {
		return "", api.ErrName
	}
	if !fitting(f.Args, args) {
		return "", api.ErrArgs
	}
	if largest(f.bound, args) > api.MaxOutput {
		return "", api.ErrLarge
	}
	return run.Phrase(b.strings, f.Code, args), api.OK
}

// fitting tells whether there is one value of each kind, in their order.
func fitting(kinds []int, args []api.Value) bool {
	if len(args) != len(kinds) {
		return false
	}
	for i, v := range args {
		if v.Kind != kinds[i] || !pure(v) {
			return false
		}
	}
	return true
}

// pure tells whether a value is nothing beside what its kind says.
func pure(v api.Value) bool {
	if v.Kind == api.Text {
		return v.Number == 0
	}
	return v.Text == ""
}

// largest tells how much a phrase could put out. A text longer than all that may come out counts as
// one byte longer: that alone is too much wherever it is put out, and no product gets too large for
// an int.
func largest(k api.Bound, args []api.Value) int {
	n := k.Bytes
	for i, v := range args {
		n += k.Times[i] * min(len(v.Text), api.MaxOutput+1)
	}
	return n
}
