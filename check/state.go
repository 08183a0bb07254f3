package check

import (
	"phrasebook/api"
	"phrasebook/page"
)

// state: what is there between two instructions. It is a value: ways that part share nothing.
type state struct {
	place page.Place
	stack [api.MaxStack]slot
	depth int // of the stack
	bound api.Bound
	torn  bool // ways met that were not alike
}

// slot: a value on the stack.
type slot struct {
	kind int
	from uint // bit i: if it is a text, it can be that of argument i
}

// meet brings another way into this one.
func (s *state) meet(t state) {
	if !s.alike(t) {
		s.torn = true
		return
	}
	for i := range s.depth {
		s.stack[i].from |= t.stack[i].from
	}
	s.bound = greatest(s.bound, t.bound)
}

// alike asks for kinds alone: which argument a text is, and how much was put out, may differ.
func (s *state) alike(t state) bool {
	if s.place != t.place || s.depth != t.depth {
		return false
	}
	for i := range s.depth {
		if s.stack[i].kind != t.stack[i].kind {
			return false
		}
	}
	return true
}

func greatest(a, b api.Bound) api.Bound {
	a.Bytes = max(a.Bytes, b.Bytes)
	for i, n := range b.Times {
		a.Times[i] = max(a.Times[i], n)
	}
	return a
}

func (s *state) write(text string) int {
	after, ok := s.place.After(text)
	if !ok {
		return api.BadPlace
	}
	s.place = after
	s.bound.Bytes += len(text)
	return 0
}

func (s *state) lay(v slot) int {
	if s.depth == api.MaxStack {
		return api.BadStack
	}
	s.stack[s.depth] = v
	s.depth++
	return 0
}

func (s *state) take(kind int) int {
	if s.depth == 0 || s.stack[s.depth-1].kind != kind {
		return api.BadStack
	}
	s.depth--
	return 0
}

func (s *state) takeNumbers() int {
	if why := s.take(api.Number); why != 0 {
		return why
	}
	return s.take(api.Number)
}

func (s *state) emit() int {
	if s.depth == 0 {
		return api.BadStack
	}
	if !s.place.TakesValues() {
		return api.BadPlace
	}
	s.depth--
	s.grow(s.stack[s.depth])
	return 0
}

// grow reckons with a value that is put out.
func (s *state) grow(v slot) {
	if v.kind == api.Number {
		s.bound.Bytes += api.PerNumber
		return
	}
	for i := range s.bound.Times {
		if v.from>>i&1 == 1 {
			s.bound.Times[i] += api.PerByte
		}
	}
}

func (s *state) end() int {
	if s.depth > 0 {
		return api.BadStack
	}
	if s.place != page.Text {
		return api.BadEnd
	}
	return 0
}
