package phrasebook

import "phrasebook/api"

// Book is one that was loaded.
type Book struct {
	strings []string
	phrases []phrase
}

// phrase: one that is sound, and how large it can become.
type phrase struct {
	api.Phrase
	bound api.Bound
}

// Names tells the phrases (P7).
func (b *Book) Names() []string {
	names := make([]string, len(b.phrases))
	for i, f := range b.phrases {
		names[i] = f.Name
	}
	return names
}

// Bound tells how large a phrase can become (P8).
func (b *Book) Bound(name string) (api.Bound, api.Errno) {
	f, ok := b.find(name)
	if !ok {
		return api.Bound{}, api.ErrName
	}
	return f.bound, api.OK
}

func (b *Book) find(name string) (phrase, bool) {
	for _, f := range b.phrases {
		if f.Name == name {
			return f, true
		}
	}
	return phrase{}, false
}
