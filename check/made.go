package check

import "phrasebook/api"

// firstIllMade tells the first instruction that may not be whether it is reached or not, and why;
// if there is none, the place behind the last one, and 0.
func (l *look) firstIllMade() (at, why int) {
	for i, c := range l.code {
		if c.Op > api.End {
			return i, api.BadOp
		}
		if !l.rightA(c) || !l.rightB(c, i) {
			return i, api.BadNumber
		}
	}
	return len(l.code), 0
}

func (l *look) rightA(c api.Ins) bool {
	switch c.Op {
	case api.Lit, api.Same:
		return c.A < len(l.strings)
	case api.Arg:
		return c.A < len(l.kinds)
	case api.Const:
		return true
	}
	return c.A == 0
}

func (l *look) rightB(c api.Ins, at int) bool {
	switch c.Op {
	case api.Same, api.Less, api.Jump:
		return at < c.B && c.B < len(l.code)
	}
	return c.B == 0
}
