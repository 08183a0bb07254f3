// Package wire: packs and the bytes they are written as.
package wire

import "phrasebook/api"

const (
	mostNumber = 1<<31 - 1 // that U can write
	mostOp     = 255       // an Op is one byte
)

// Within tells whether a pack is within the limits.
// Lengths are asked ahead of what they are the lengths of: a list of any length is refused at once.
func Within(p api.Pack) bool {
	if len(p.Strings) > api.MaxStrings || len(p.Phrases) > api.MaxPhrases {
		return false
	}
	for _, s := range p.Strings {
		if len(s) > api.MaxString {
			return false
		}
	}
	for i, f := range p.Phrases {
		if !phraseWithin(f) || hasName(p.Phrases[:i], f.Name) {
			return false
		}
	}
	return true
}

func phraseWithin(f api.Phrase) bool {
	return len(f.Name) >= 1 && len(f.Name) <= api.MaxName && argsWithin(f.Args) && codeWithin(f.Code)
}

func argsWithin(kinds []int) bool {
	if len(kinds) > api.MaxArgs {
		return false
	}
	for _, k := range kinds {
		if k != api.Text && k != api.Number {
			return false
		}
	}
	return true
}

func codeWithin(code []api.Ins) bool {
	if len(code) < 1 || len(code) > api.MaxCode {
		return false
	}
	for _, c := range code {
		if !between(c.Op, mostOp) || !between(c.A, mostNumber) || !between(c.B, mostNumber) {
			return false
		}
	}
	return true
}

func between(n, most int) bool {
	return n >= 0 && n <= most
}

func hasName(phrases []api.Phrase, name string) bool {
	for _, f := range phrases {
		if f.Name == name {
			return true
		}
	}
	return false
}
