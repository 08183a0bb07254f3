package wire

import "phrasebook/api"

// Write makes the bytes of a pack that is within the limits, however many they are.
func Write(p api.Pack) string {
	b := []byte(head)
	b = addNumber(b, len(p.Strings))
	for _, s := range p.Strings {
		b = addText(b, s)
	}
	b = addNumber(b, len(p.Phrases))
	for _, f := range p.Phrases {
		b = addPhrase(b, f)
	}
	all := string(b)
	return all + sum(all)
}

func addPhrase(b []byte, f api.Phrase) []byte {
	b = addText(b, f.Name)
	b = addNumber(b, len(f.Args))
	for _, k := range f.Args {
		b = append(b, byte(k))
	}
	b = addNumber(b, len(f.Code))
	for _, c := range f.Code {
		b = append(b, byte(c.Op))
		b = addNumber(b, c.A)
		b = addNumber(b, c.B)
	}
	return b
}

func addText(b []byte, s string) []byte {
	b = addNumber(b, len(s))
	return append(b, s...)
}

func addNumber(b []byte, n int) []byte {
	for n > 127 {
		b = append(b, byte(n&127|128))
		n >>= 7
	}
	return append(b, byte(n))
}
