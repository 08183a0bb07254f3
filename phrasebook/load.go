package phrasebook

import (
	"sync"

	"phrasebook/api"
	"phrasebook/check"
)

// finding: what a look over one phrase found.
type finding struct {
	number int
	bound  api.Bound
	fault  api.Fault
}

// Load loads a book (P5, P6).
func Load(b string) (*Book, api.Errno, api.Fault) {
	p, e := Decode(b)
	if e != api.OK {
		return nil, e, api.Fault{}
	}
	all := make([]finding, len(p.Phrases))
	for f := range lookOver(p) {
		all[f.number] = f
	}
	book := &Book{strings: p.Strings}
	for i, f := range all {
		if f.fault.Why != 0 {
			return nil, api.ErrCode, f.fault
		}
		book.phrases = append(book.phrases, phrase{p.Phrases[i], f.bound})
	}
	return book, api.OK, api.Fault{}
}

// lookOver has each phrase looked over by a goroutine of its own. The channel has room for what all
// of them find: so none waits for who ranges over it, and all have ended when it is closed.
func lookOver(p api.Pack) <-chan finding {
	found := make(chan finding, len(p.Phrases))
	var looking sync.WaitGroup
	for i := range p.Phrases {
		looking.Add(1)
		go func() {
			defer looking.Done()
			bound, fault := check.Phrase(p, i)
			found <- finding{i, bound, fault}
		}()
	}
	looking.Wait()
	close(found)
	return found
}
