package phrasebook_test

import (
	"slices"
	"strings"
	"testing"

	"phrasebook/api"
	"phrasebook/phrasebook"
)

// loaded is the book of a pack whose phrases are sound.
func loaded(t *testing.T, p api.Pack) *phrasebook.Book {
	t.Helper()
	b, e, f := loadPack(t, p)
	if b == nil {
		t.Fatalf("Load of %s = %d, %v", text(p), e, f)
	}
	return b
}

// withNames is a pack of phrases that put out nothing.
func withNames(names ...string) api.Pack {
	p := named(names...)
	for i := range p.Phrases {
		p.Phrases[i].Code = list(end)
	}
	return p
}

func TestP7Names(t *testing.T) {
	for _, names := range [][]string{
		{}, {"p"}, {"q", "p"}, {"b", "a", "c"}, {"a", "A", "aa", "\x00", "<", "\xff\xfe"}, {strings.Repeat("x", api.MaxName)}, letters(12),
	} {
		b := loaded(t, withNames(names...))
		if l := b.Names(); !slices.Equal(l, names) {
			t.Errorf("Names = %q, want %q", l, names)
		}
	}
	backward := letters(12)
	slices.Reverse(backward)
	for range 50 { // however the goroutines run
		if l := loaded(t, withNames(backward...)).Names(); !slices.Equal(l, backward) {
			t.Errorf("Names = %q, want %q", l, backward)
		}
	}
}

func TestP8NoSuchPhrase(t *testing.T) {
	b := loaded(t, phrases(list(lit(one), end), list(lit(endTag), end)))
	for _, name := range []string{"", "c", "A", "aa", "ab", "a\x00", " a", strings.Repeat("a", 1<<20)} {
		if k, e := b.Bound(name); k != (api.Bound{}) || e != api.ErrName {
			t.Errorf("Bound(%.20q) = %v, %d, want ErrName", name, k, e)
		}
	}
	nothing := loaded(t, api.Pack{})
	if k, e := nothing.Bound(""); k != (api.Bound{}) || e != api.ErrName {
		t.Errorf("Bound of no phrases = %v, %d, want ErrName", k, e)
	}
}

func wantBound(t *testing.T, what string, b *phrasebook.Book, name string, want api.Bound) {
	t.Helper()
	if k, e := b.Bound(name); k != want || e != api.OK {
		t.Errorf("%s: Bound = %v, %d, want %v", what, k, e, want)
	}
}

func TestP8DocumentsExample(t *testing.T) {
	wantBound(t, "the phrase", loaded(t, documentPack()), "p", api.Bound{Bytes: 36, Times: [6]int{6}})
}

func TestP8Bound(t *testing.T) {
	for _, c := range []struct {
		what  string
		code  []api.Ins
		bytes int
		times [6]int
	}{
		{"End", list(end), 0, [6]int{}},
		{"an empty string", list(lit(empty), end), 0, [6]int{}},
		{"a string twice", list(lit(one), lit(one), end), 6, [6]int{}},
		{"a string of tags", list(lit(toValue), lit(fromValue), end), 12, [6]int{}},
		{"a text", list(arg(0), emit, end), 0, [6]int{6}},
		{"a text twice", list(arg(2), emit, arg(2), emit, end), 0, [6]int{0, 0, 12}},
		{"texts", list(arg(2), emit, arg(0), emit, arg(2), emit, end), 0, [6]int{6, 0, 12}},
		{"a number", list(arg(1), emit, end), 20, [6]int{}},
		{"a small number", list(number(0), emit, end), 20, [6]int{}},
		{"numbers", list(number(0), arg(1), emit, emit, end), 40, [6]int{}},
		{"a sum", list(number(0), arg(1), add, emit, end), 20, [6]int{}},
		{"a value in an attribute", list(lit(toValue), arg(0), emit, arg(1), emit, lit(fromValue), end), 32, [6]int{6}},
		{"what Same takes is not put out", list(arg(0), same(one, 2), end), 0, [6]int{}},
		{"what Less takes is not put out", list(number(1), arg(1), less(3), end), 0, [6]int{}},
		{"from below on the stack", list(arg(0), arg(1), arg(2), emit, emit, same(one, 6), end), 20, [6]int{0, 0, 6}},
		{"all of the stack", list(arg(0), arg(1), arg(2), emit, emit, emit, end), 20, [6]int{6, 0, 6}},
		{"what is not reached", list(jump(4), lit(one), arg(0), emit, lit(endTag), end, lit(one)), 4, [6]int{}},
	} {
		b := loaded(t, phrases(c.code))
		wantBound(t, c.what, b, "a", api.Bound{Bytes: c.bytes, Times: c.times})
	}
}

func TestP8BoundOfWaysThatMeet(t *testing.T) {
	for _, c := range []struct {
		what  string
		code  []api.Ins
		bytes int
		times [6]int
	}{
		{"the next is greater", list(arg(0), same(one, 4), lit(endTag), jump(5), lit(one), end), 4, [6]int{}},
		{"B is greater", list(arg(0), same(one, 4), lit(one), jump(5), lit(endTag), end), 4, [6]int{}},
		{"one way has nothing", list(arg(0), same(one, 3), lit(one), end), 3, [6]int{}},
		{"of Less too", list(arg(1), number(3), less(4), lit(one), end), 3, [6]int{}},
		{"of each number the greatest", list(arg(0), same(one, 4), lit(one), jump(8), arg(2), emit, arg(2), emit, end), 3, [6]int{0, 0, 12}},
		{"of each text the greatest", list(arg(0), same(one, 5), arg(0), emit, jump(7), arg(2), emit, lit(one), end), 3, [6]int{6, 0, 6}},
		{"what is ahead counts on both", list(lit(one), arg(0), same(one, 5), lit(one), jump(6), lit(endTag), lit(one), end), 10, [6]int{}},
		{"three ways", list(arg(0), same(one, 4), lit(one), jump(8), arg(0), same(one, 8), lit(endTag), lit(one), end), 7, [6]int{}},
		{"two Ends", list(arg(0), same(one, 4), lit(one), end, lit(endTag), end), 4, [6]int{}},
		{"two Ends, the first is greater", list(arg(0), same(one, 4), lit(endTag), end, lit(one), end), 4, [6]int{}},
		{"two Ends, of each number the greatest", list(arg(0), same(one, 4), lit(one), end, arg(2), emit, end), 3, [6]int{0, 0, 6}},
		{"two Ends, behind Less", list(arg(1), number(3), less(5), lit(one), end, lit(endTag), end), 4, [6]int{}},
		{"an End ahead of more", list(arg(0), same(one, 3), end, lit(one), end), 3, [6]int{}},
		{"one text or another", list(arg(0), same(one, 4), arg(0), jump(5), arg(2), emit, end), 0, [6]int{6, 0, 6}},
		{"the same text on both", list(arg(0), same(one, 4), arg(2), jump(5), arg(2), emit, end), 0, [6]int{0, 0, 6}},
		{"one text or another, not put out", list(arg(0), same(one, 4), arg(0), jump(5), arg(2), same(one, 6), end), 0, [6]int{}},
		{"one number or another", list(arg(0), same(one, 4), number(1), jump(5), arg(1), emit, end), 20, [6]int{}},
		{"one text or another, below another value", list(arg(0), same(one, 4), arg(0), jump(5), arg(2), arg(1), emit, emit, end), 20, [6]int{6, 0, 6}},
		{"one text or another, above another", list(arg(0), arg(0), same(one, 5), arg(0), jump(6), arg(2), emit, emit, end), 0, [6]int{12, 0, 6}},
		{"two texts the other way round", list(arg(0), same(one, 5), arg(0), arg(2), jump(7), arg(2), arg(0), emit, emit, end), 0, [6]int{12, 0, 12}},
		{"two texts the other way round, one put out", list(arg(0), same(one, 5), arg(0), arg(2), jump(7), arg(2), arg(0), emit, same(one, 9), end), 0, [6]int{6, 0, 6}},
		// By no way more than 12 times the third text; but the meeting forgets which way it was.
		{"more than by any way", list(arg(0), same(one, 8), arg(2), emit, arg(2), emit, arg(0), jump(9), arg(2), emit, end), 0, [6]int{6, 0, 18}},
		{"behind a meeting only", list(arg(0), same(one, 4), arg(0), jump(5), arg(2), emit, arg(0), emit, end), 0, [6]int{12, 0, 6}},
		{"ahead of a meeting only", list(arg(0), emit, arg(0), same(one, 6), arg(0), jump(7), arg(2), emit, end), 0, [6]int{12, 0, 6}},
		{"what was a text there before", list(arg(2), emit, arg(0), same(one, 6), arg(0), jump(7), arg(0), emit, end), 0, [6]int{6, 0, 6}},
		{"a way that is not reached", list(jump(3), arg(2), jump(4), arg(0), emit, end), 0, [6]int{6}},
	} {
		b := loaded(t, phrases(c.code))
		wantBound(t, c.what, b, "a", api.Bound{Bytes: c.bytes, Times: c.times})
	}
}

// Six texts: each way lays another one, all ways meet, and what is there may be any of them.
func TestP8OneOfSixTexts(t *testing.T) {
	c := list()
	for i := range 5 {
		c = append(c, arg(0), same(i, 4*i+4), arg(i), jump(21))
	}
	c = append(c, arg(5), emit, end)
	p := api.Pack{Strings: strs(), Phrases: []api.Phrase{{Name: "p", Args: make([]int, 6), Code: c}}}
	wantBound(t, "one of six", loaded(t, p), "p", api.Bound{Times: [6]int{6, 6, 6, 6, 6, 6}})
}

func TestP8Largest(t *testing.T) {
	p := api.Pack{Strings: []string{strings.Repeat("x", api.MaxString)}, Phrases: []api.Phrase{{Name: "p", Code: append(code(59), end)}}}
	wantBound(t, "strings", loaded(t, p), "p", api.Bound{Bytes: 59 * 60})
	c := list()
	for range 29 {
		c = append(c, arg(5), emit)
	}
	p.Phrases[0] = api.Phrase{Name: "p", Args: make([]int, 6), Code: append(c, end)}
	wantBound(t, "texts", loaded(t, p), "p", api.Bound{Times: [6]int{5: 29 * 6}})
}

func TestP8EachPhrase(t *testing.T) {
	p := phrases(list(lit(one), end), list(arg(0), emit, end), list(end), list(arg(1), emit, end))
	for range 50 { // however the goroutines run
		b := loaded(t, p)
		wantBound(t, "the first", b, "a", api.Bound{Bytes: 3})
		wantBound(t, "the second", b, "b", api.Bound{Times: [6]int{6}})
		wantBound(t, "the third", b, "c", api.Bound{})
		wantBound(t, "the last", b, "d", api.Bound{Bytes: 20})
	}
}
