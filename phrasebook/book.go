package phrasebook

import "phrasebook/api"

// Book is one that was loaded.
type Book struct {
	phrases []phrase
}

type phrase struct {
	name  string
	bound api.Bound
}

// Names tells the phrases (P7).
func (b *Book) Names() []string {
	names := make([]string, len(b.phrases))
	for i, f := range b.phrases {
		names[i] = f.name
	}
	return names
}

// Bound tells how large a phrase can become (P8).
func (b *Book) Bound(name string) (api.Bound, api.Errno) {
	for _, f := range b.phrases {
		if f.name == name {
			return f.bound, api.OK
		}
	}
	return api.Bound{}, api.ErrName
}

// Format runs a phrase (P9, P10).
func (b *Book) Format(name string, args []api.Value) (string, api.Errno) { return "", api.OK }
