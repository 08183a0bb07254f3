package phrasebook_test

import (
	"fmt"
	"strings"
	"testing"
	"unsafe"

	"phrasebook/api"
	"phrasebook/phrasebook"
)

// roomy is a pack each list of which has spare room with something in it.
func roomy() api.Pack {
	phrases := []api.Phrase{
		{Name: "a", Args: []int{0, 1, 77, 78}[:2], Code: []api.Ins{{Op: 1, A: 2, B: 3}, {Op: 77}, {Op: 78}}[:1]},
		{Name: "b", Args: []int{79}[:0], Code: []api.Ins{{Op: 8}, {Op: 79}}[:1]},
		{Name: "spare", Args: []int{1, 80}[:1], Code: []api.Ins{{Op: 80}, {Op: 81}}[:1]},
	}
	return api.Pack{Strings: []string{"x", "y", "spare", ""}[:2], Phrases: phrases[:2]}
}

// whole tells a pack and its spare room, and that of the lists in it.
func whole(p api.Pack) string {
	var b strings.Builder
	fmt.Fprintf(&b, "%d %q %d", len(p.Strings), p.Strings[:cap(p.Strings)], len(p.Phrases))
	for _, f := range p.Phrases[:cap(p.Phrases)] {
		fmt.Fprintf(&b, " %q %d %v %d %v", f.Name, len(f.Args), f.Args[:cap(f.Args)], len(f.Code), f.Code[:cap(f.Code)])
	}
	return b.String()
}

func TestP2EncodeWritesNothing(t *testing.T) {
	tooMany := roomy()
	tooMany.Phrases = tooMany.Phrases[:3]
	tooMany.Phrases[2].Name = "a"
	for _, p := range []api.Pack{roomy(), tooMany} {
		before := whole(p)
		first, e := phrasebook.Encode(p)
		if after := whole(p); after != before {
			t.Errorf("Encode made of %s %s", before, after)
		}
		if again, f := phrasebook.Encode(p); again != first || f != e {
			t.Errorf("Encode = %x, %d, and then %x, %d", first, e, again, f)
		}
	}
}

// lent is a string over memory that the test goes on writing into.
func lent(b []byte) string { return unsafe.String(unsafe.SliceData(b), len(b)) }

func spoil(b []byte) {
	for i := range b {
		b[i] = '-'
	}
}

func TestP2NothingKept(t *testing.T) {
	name, str := []byte("name"), []byte("string")
	b, _ := phrasebook.Encode(api.Pack{Strings: []string{lent(str)}, Phrases: []api.Phrase{{Name: lent(name), Code: code(1)}}})
	want := packed("\x01\x06string\x01\x04name\x00\x01\x00\x00\x00")
	spoil(name)
	spoil(str)
	if b != want {
		t.Errorf("Encode's answer became %x, want %x", b, want)
	}
	for _, c := range pairs() {
		given := []byte(c.bytes)
		p, _ := phrasebook.Decode(lent(given))
		if string(given) != c.bytes {
			t.Errorf("%s: Decode wrote into what it was given: %x", c.what, given)
		}
		spoil(given)
		if text(p) != text(c.pack) {
			t.Errorf("%s: Decode's answer became %s, want %s", c.what, text(p), text(c.pack))
		}
	}
}

// span is the memory of a list, its spare room too.
type span struct {
	what     string
	from, to uintptr
}

func spanOf[T any](what string, l []T) span {
	var one T
	from := uintptr(unsafe.Pointer(unsafe.SliceData(l)))
	return span{what, from, from + uintptr(cap(l))*unsafe.Sizeof(one)}
}

func spansOf(what string, p api.Pack) []span {
	all := []span{spanOf(what+" strings", p.Strings), spanOf(what+" phrases", p.Phrases)}
	for i, f := range p.Phrases {
		all = append(all, spanOf(fmt.Sprint(what, " arguments of ", i), f.Args), spanOf(fmt.Sprint(what, " code of ", i), f.Code))
	}
	return all
}

func TestP2NoSharedMemory(t *testing.T) {
	_, full := sized(4000)
	many := packed("\x01\x01s\x03" + "\x01p\x02\x00\x01\x01\x00\x00\x00" + "\x01q\x02\x00\x01\x01\x00\x00\x00" + "\x01r\x00\x02\x00\x00\x00\x01\x01\x01")
	for _, b := range []string{full, many} {
		one, _ := phrasebook.Decode(b)
		two, _ := phrasebook.Decode(b)
		all := append(spansOf("first", one), spansOf("second", two)...)
		for i, x := range all {
			for _, y := range all[:i] {
				if x.from < y.to && y.from < x.to {
					t.Errorf("%s and %s share memory", y.what, x.what)
				}
			}
		}
	}
}

// scribble writes into all lists of a pack, and into their spare room.
func scribble(p api.Pack) {
	for i := range p.Phrases {
		f := p.Phrases[i]
		for k := range f.Args[:cap(f.Args)] {
			f.Args[:cap(f.Args)][k] = -9
		}
		for k := range f.Code[:cap(f.Code)] {
			f.Code[:cap(f.Code)][k] = api.Ins{Op: -9, A: -9, B: -9}
		}
	}
	for i := range p.Strings[:cap(p.Strings)] {
		p.Strings[:cap(p.Strings)][i] = "scribble"
	}
	for i := range p.Phrases[:cap(p.Phrases)] {
		p.Phrases[:cap(p.Phrases)][i] = api.Phrase{Name: "scribble"}
	}
}

func TestP2AnswersAreTheCallers(t *testing.T) {
	for _, c := range pairs() {
		kept, _ := phrasebook.Decode(c.bytes)
		for range 3 {
			p, e := phrasebook.Decode(c.bytes)
			if text(p) != text(c.pack) || e != api.OK {
				t.Errorf("%s: Decode = %s, %d, want %s", c.what, text(p), e, text(c.pack))
			}
			scribble(p)
		}
		if text(kept) != text(c.pack) {
			t.Errorf("%s: an earlier answer became %s", c.what, text(kept))
		}
	}
}

// told is all that a book tells of itself.
func told(b *phrasebook.Book) string {
	all := fmt.Sprintf("%q", b.Names())
	for _, n := range b.Names() {
		k, e := b.Bound(n)
		s, f := b.Format(n, threeOf("a<b", -7, "z"))
		all += fmt.Sprintf(" %v %d %q %d", k, e, s, f)
	}
	return all
}

func TestP2LoadKeepsNothing(t *testing.T) {
	s, _ := phrasebook.Encode(phrases(list(lit(one), arg(0), emit, end), list(arg(1), emit, end)))
	given := []byte(s)
	b, _, _ := phrasebook.Load(lent(given))
	if string(given) != s {
		t.Errorf("Load wrote into what it was given: %x", given)
	}
	before := told(b)
	spoil(given)
	if after := told(b); after != before {
		t.Errorf("a book became %s, it was %s", after, before)
	}
	faulty, _ := phrasebook.Encode(phrases(list(emit)))
	given = []byte(faulty)
	if phrasebook.Load(lent(given)); string(given) != faulty {
		t.Errorf("Load wrote into what it was given: %x", given)
	}
}

func TestP2NamesAreTheCallers(t *testing.T) {
	b := loaded(t, withNames("b", "a", "c"))
	kept := b.Names()
	for range 3 {
		l := b.Names()
		if fmt.Sprint(l) != "[b a c]" {
			t.Errorf("Names = %q", l)
		}
		x, y := spanOf("", kept), spanOf("", l)
		if x.from < y.to && y.from < x.to {
			t.Error("two lists of names share memory")
		}
		for i := range l[:cap(l)] {
			l[:cap(l)][i] = "scribble"
		}
		_ = append(l[:1], "more")
	}
	if fmt.Sprint(kept) != "[b a c]" {
		t.Errorf("an earlier answer became %q", kept)
	}
	if k, e := b.Bound("scribble"); k != (api.Bound{}) || e != api.ErrName {
		t.Errorf("Bound = %v, %d, want ErrName", k, e)
	}
}

func TestP2BooksDoNotTouch(t *testing.T) {
	one, two := phrases(list(lit(one), end)), phrases(list(arg(1), emit, end), list(end))
	b := loaded(t, one)
	before := told(b)
	c := loaded(t, two)
	loadPack(t, phrases(list(emit)))
	if after := told(b); after != before {
		t.Errorf("a book became %s, it was %s", after, before)
	}
	if again := told(loaded(t, one)); again != before {
		t.Errorf("loaded again a book tells %s, it told %s", again, before)
	}
	if told(c) == before {
		t.Errorf("two books tell the same: %s", before)
	}
}

// Who asks one book from many goroutines, or loads in many, is told the same (go test -race sees more).
func TestP2AtOnce(t *testing.T) {
	s, _ := phrasebook.Encode(phrases(list(lit(one), end), list(arg(0), emit, end), list(end)))
	b, _, _ := phrasebook.Load(s)
	want := told(b)
	answers := make(chan string)
	for range 20 {
		go func() {
			mine, _, _ := phrasebook.Load(s)
			answers <- told(mine) + told(b)
		}()
	}
	for range 20 {
		if got := <-answers; got != want+want {
			t.Errorf("at once: %s, want %s twice", got, want)
		}
	}
}

// roomyRow is a row of values with spare room that has something in it.
func roomyRow(first, last string) []api.Value {
	return append(threeOf(first, -7, last), textOf("spare"), numberOf(3))[:3]
}

func TestP2FormatWritesNothing(t *testing.T) {
	b := loaded(t, phrases(
		list(arg(0), arg(1), arg(2), emit, emit, emit, end),
		list(arg(1), number(1), add, arg(1), less(5), arg(0), same(one, 7), end),
	))
	long := strings.Repeat("x", 400)
	for _, name := range []string{"a", "b", "c"} {
		for _, args := range [][]api.Value{roomyRow("a<b", "z"), roomyRow("one", ""), roomyRow(long, "z"), roomyRow("x", "y")[:2], roomyRow("x", "y")[:5], roomyRow("x", "y")[:0]} {
			before := fmt.Sprint(args[:cap(args)])
			first, e := b.Format(name, args)
			if after := fmt.Sprint(args[:cap(args)]); after != before {
				t.Errorf("Format made of %s %s", before, after)
			}
			if again, f := b.Format(name, args); again != first || f != e {
				t.Errorf("Format = %q, %d, and then %q, %d", first, e, again, f)
			}
		}
	}
}

func TestP2FormatKeepsNothing(t *testing.T) {
	b := loaded(t, phrases(list(arg(0), emit, end), list(arg(2), arg(0), emit, emit, end)))
	name, first, last := []byte("a"), []byte("plain"), []byte("<")
	args := threeOf(lent(first), 5, lent(last))
	alone, _ := b.Format(lent(name), args)
	name[0] = 'b'
	both, _ := b.Format(lent(name), args)
	if string(name) != "b" || string(first) != "plain" || string(last) != "<" {
		t.Errorf("Format wrote into what it was given: %s, %s, %s", name, first, last)
	}
	spoil(name)
	spoil(first)
	spoil(last)
	args[0], args[1], args[2] = numberOf(1), textOf("x"), numberOf(2)
	if alone != "plain" || both != "plain&lt;" {
		t.Errorf("answers became %q and %q", alone, both)
	}
	wantOut(t, "later", b, "b", threeOf("later", 5, ">"), "later&gt;")
}

// No answer is a piece of an argument, of the book or of another answer.
func TestP2FormatsAnswersAreNew(t *testing.T) {
	p := phrases(list(arg(0), emit, end), list(lit(one), end), list(arg(1), emit, end))
	b := loaded(t, p)
	given := "plain text of some length"
	for _, name := range b.Names() {
		var all []span
		all = append(all, stringSpan("the argument", given))
		for range 3 {
			s, _ := b.Format(name, threeOf(given, 1234567, ""))
			all = append(all, stringSpan("an answer", s))
		}
		for i, x := range all {
			for _, y := range all[:i] {
				if x.from < y.to && y.from < x.to {
					t.Errorf("%s: %s and %s share memory", name, y.what, x.what)
				}
			}
		}
	}
}

func stringSpan(what, s string) span {
	return spanOf(what, unsafe.Slice(unsafe.StringData(s), len(s)))
}

// Books of the same names put out what is their own, whichever is asked first.
func TestP2BooksBesideOneAnother(t *testing.T) {
	first := phrases(list(lit(one), end), list(arg(0), emit, end))
	second := phrases(list(arg(1), emit, end), list(arg(2), emit, end))
	third := phrases(list(lit(one), end), list(arg(0), emit, end))
	third.Strings[one] = "other"
	third.Phrases[1].Args = []int{api.Text}
	a, b, c := loaded(t, first), loaded(t, second), loaded(t, third)
	for range 3 {
		wantOut(t, "the first", a, "a", threeOf("x", 5, "z"), "one")
		wantOut(t, "the second", b, "a", threeOf("x", 5, "z"), "5")
		wantOut(t, "the third", c, "a", threeOf("x", 5, "z"), "other")
		wantOut(t, "the first", a, "b", threeOf("x", 5, "z"), "x")
		wantOut(t, "the second", b, "b", threeOf("x", 5, "z"), "z")
		wantOut(t, "the third", c, "b", row(textOf("x")), "x")
		wantErr(t, "the third", c, "b", threeOf("x", 5, "z"), api.ErrArgs)
		wantErr(t, "the first", a, "b", row(textOf("x")), api.ErrArgs)
		wantErr(t, "the second", b, "b", threeOf("", 5, strings.Repeat("x", 400)), api.ErrLarge)
		wantOut(t, "the first", a, "b", threeOf("", 5, strings.Repeat("x", 400)), "")
	}
}
