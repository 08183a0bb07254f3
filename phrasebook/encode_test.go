package phrasebook_test

import (
	"slices"
	"strings"
	"testing"

	"phrasebook/api"
	"phrasebook/phrasebook"
)

func TestP3Bytes(t *testing.T) {
	for _, c := range pairs() {
		if b, e := phrasebook.Encode(c.pack); b != c.bytes || e != api.OK {
			t.Errorf("%s: Encode = %x, %d, want %x", c.what, b, e, c.bytes)
		}
	}
}

// The sum is written out here: from 1 on it becomes 344, 25018, 27636, 60959, 45094 (b026),
// so that the tests' own seal is held against something too.
func TestP3Sum(t *testing.T) {
	want := "PB\x01\x00\x00\x26\xb0"
	if b, e := phrasebook.Encode(api.Pack{}); b != want || e != api.OK {
		t.Errorf("Encode of nothing = %x, %d, want %x", b, e, want)
	}
	if b := packed("\x00\x00"); b != want {
		t.Errorf("the tests' seal makes %x, want %x", b, want)
	}
}

type limit struct {
	what      string
	at, above api.Pack
}

// limits are packs just at a limit, and just past it.
func limits() []limit {
	long := strings.Repeat("s", api.MaxString)
	name := strings.Repeat("n", api.MaxName)
	twelve := letters(api.MaxPhrases)
	return []limit{
		{"strings", withStrings(make([]string, 40)...), withStrings(make([]string, 41)...)},
		{"bytes of the first string", withStrings(long, ""), withStrings(long+"s", "")},
		{"bytes of the last string", withStrings("", long), withStrings("", long+"s")},
		{"phrases", named(twelve...), named(letters(13)...)},
		{"least bytes of a name", named("n"), named("")},
		{"least bytes of a later name", named("m", "n"), named("m", "")},
		{"most bytes of a name", named(name), named(name + "n")},
		{"names alike at the ends", named(append(twelve[:11:11], "z")...), named(append(twelve[:11:11], "a")...)},
		{"names alike side by side", named("a", "b"), named("a", "a")},
		{"arguments", withArgs(make([]int, 6)...), withArgs(make([]int, 7)...)},
		{"greatest kind", withArgs(1), withArgs(2)},
		{"greatest kind, last", withArgs(0, 1, 1), withArgs(0, 1, 2)},
		{"least kind", withArgs(0), withArgs(-1)},
		{"a kind that is one as a byte", withArgs(1), withArgs(257)},
		{"least instructions", withCode(code(1)...), withCode()},
		{"most instructions", withCode(code(60)...), withCode(code(61)...)},
		{"greatest Op", withCode(api.Ins{Op: 255}), withCode(api.Ins{Op: 256})},
		{"least Op", withCode(api.Ins{Op: 0}), withCode(api.Ins{Op: -1})},
		{"greatest A", withCode(api.Ins{A: most}), withCode(api.Ins{A: most + 1})},
		{"least A", withCode(api.Ins{A: 0}), withCode(api.Ins{A: -1})},
		{"greatest B", withCode(api.Ins{B: most}), withCode(api.Ins{B: most + 1})},
		{"least B", withCode(api.Ins{B: 0}), withCode(api.Ins{B: -1})},
		{"A of the last instruction", withCode(append(code(59), api.Ins{A: most})...), withCode(append(code(59), api.Ins{A: most + 1})...)},
		{"A of 64 bits", withCode(api.Ins{A: 1}), withCode(api.Ins{A: 1<<63 - 1})},
		{"B of 64 bits", withCode(api.Ins{B: 1}), withCode(api.Ins{B: -1 << 63})},
		{"an A that is one modulo 2^32", withCode(api.Ins{A: 1}), withCode(api.Ins{A: 1<<32 + 1})},
	}
}

func TestP3Limits(t *testing.T) {
	for _, c := range limits() {
		b, e := phrasebook.Encode(c.at)
		if b == "" || e != api.OK {
			t.Errorf("%s: at the limit: Encode = %x, %d", c.what, b, e)
		}
		if p, e := phrasebook.Decode(b); text(p) != text(c.at) || e != api.OK {
			t.Errorf("%s: at the limit: Decode = %s, %d", c.what, text(p), e)
		}
		if b, e := phrasebook.Encode(c.above); b != "" || e != api.ErrLimit {
			t.Errorf("%s: past the limit: Encode = %x, %d", c.what, b, e)
		}
	}
}

func TestP3MostBytes(t *testing.T) {
	for _, n := range []int{3919, 3999, 4000} {
		p, want := sized(n)
		if len(want) != n {
			t.Fatalf("the test's pack has %d bytes, not %d", len(want), n)
		}
		if b, e := phrasebook.Encode(p); b != want || e != api.OK {
			t.Errorf("Encode of a pack of %d bytes = %d bytes, %d", n, len(b), e)
		}
	}
	for _, n := range []int{4001, 4100} {
		p, _ := sized(n)
		if b, e := phrasebook.Encode(p); b != "" || e != api.ErrLimit {
			t.Errorf("Encode of a pack of %d bytes = %d bytes, %d", n, len(b), e)
		}
	}
}

func TestP1EncodeOfAnything(t *testing.T) {
	huge := strings.Repeat("s", 1<<24)
	for i, p := range []api.Pack{
		withStrings(huge),
		withStrings(make([]string, 1<<20)...),
		named(huge),
		named(huge, huge),
		named(slices.Repeat([]string{"n"}, 1<<16)...),
		withArgs(make([]int, 1<<20)...),
		withCode(code(1 << 20)...),
		{Phrases: make([]api.Phrase, 1<<20)},
		{Phrases: make([]api.Phrase, 1)},
	} {
		if b, e := phrasebook.Encode(p); b != "" || e != api.ErrLimit {
			t.Errorf("pack %d: Encode = %.20x, %d", i, b, e)
		}
	}
}
