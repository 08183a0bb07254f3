// Package check looks phrases over before they run.
package check

import "phrasebook/api"

// Phrase looks over one phrase of a pack within the limits: it tells how large the phrase can
// become, or what is wrong with it. A fault with a Why of 0 is none.
func Phrase(p api.Pack, number int) (api.Bound, api.Fault) {
	f := p.Phrases[number]
	l := look{strings: p.Strings, kinds: f.Args, code: f.Code}
	at, why := l.through()
	if why != 0 {
		return api.Bound{}, api.Fault{Phrase: number, At: at, Why: why}
	}
	return l.most, api.Fault{}
}

// look: a phrase while it is looked over.
type look struct {
	strings []string
	kinds   []int
	code    []api.Ins
	todo    arrivals
	most    api.Bound // behind the Ends that were met
}

// through tells the first instruction that may not be, and why; the why is 0 if there is none.
// An instruction is looked at only if all ahead of it are well made: ways then go forward alone.
func (l *look) through() (at, why int) {
	at, why = l.firstIllMade()
	l.todo.add(0, state{})
	for l.todo.anyBefore(at) {
		here, ahead := l.todo.next()
		if wrong := l.pass(here, ahead); wrong != 0 {
			return here, wrong
		}
	}
	return at, why
}

// pass looks at an instruction that is reached, and adds those at which it goes on.
func (l *look) pass(at int, s state) int {
	c := l.code[at]
	if why := l.step(&s, c); why != 0 {
		return why
	}
	switch c.Op {
	case api.End:
		l.most = greatest(l.most, s.bound)
		return 0
	case api.Jump:
		l.todo.add(c.B, s)
		return 0
	case api.Same, api.Less:
		l.todo.add(c.B, s)
	}
	if at+1 == len(l.code) {
		return api.BadEnd
	}
	l.todo.add(at+1, s)
	return 0
}

// step makes of what is ahead of an instruction what is behind it, or tells why that can't be.
func (l *look) step(s *state, c api.Ins) int {
	if s.torn {
		return api.BadMeeting
	}
	switch c.Op {
	case api.Lit:
		return s.write(l.strings[c.A])
	case api.Arg:
		return s.lay(slot{kind: l.kinds[c.A], from: 1 << c.A})
	case api.Const:
		return s.lay(slot{kind: api.Number})
	case api.Add:
		if why := s.takeNumbers(); why != 0 {
			return why
		}
		return s.lay(slot{kind: api.Number})
	case api.Emit:
		return s.emit()
	case api.Same:
		return s.take(api.Text)
	case api.Less:
		return s.takeNumbers()
	case api.End:
		return s.end()
	}
	return 0
}
