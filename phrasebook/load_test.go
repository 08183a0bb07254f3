package phrasebook_test

import (
	"strings"
	"testing"
	"testing/synctest"

	"phrasebook/api"
	"phrasebook/phrasebook"
)

func loadPack(t *testing.T, p api.Pack) (*phrasebook.Book, api.Errno, api.Fault) {
	t.Helper()
	s, e := phrasebook.Encode(p)
	if e != api.OK {
		t.Fatalf("Encode(%s) = %d", text(p), e)
	}
	return phrasebook.Load(s)
}

// wantFault loads a pack that is not sound, or is: then the fault wanted is of zeros.
func wantFault(t *testing.T, what string, p api.Pack, want api.Fault) {
	t.Helper()
	err := api.OK
	if want.Why != 0 {
		err = api.ErrCode
	}
	b, e, f := loadPack(t, p)
	if e != err || f != want || (b != nil) != (err == api.OK) {
		t.Errorf("%s: Load = %v, %d, %v, want %d, %v", what, b != nil, e, f, err, want)
	}
}

type faulty struct {
	what string
	code []api.Ins
	at   int
	why  int // 0: the phrase is sound
}

func wantFaults(t *testing.T, all []faulty) {
	t.Helper()
	for _, c := range all {
		wantFault(t, c.what, phrases(c.code), api.Fault{At: c.at, Why: c.why})
	}
}

func TestP5Bytes(t *testing.T) {
	good := documentPack()
	s, _ := phrasebook.Encode(good)
	for _, c := range []struct {
		what, bytes string
		e           api.Errno
	}{
		{"no bytes", "", api.ErrBytes},
		{"a sum alone", seal(""), api.ErrBytes},
		{"a byte more", s + "x", api.ErrBytes},
		{"a byte less", s[:len(s)-1], api.ErrBytes},
		{"another sum", s[:len(s)-1] + string([]byte{s[len(s)-1] + 1}), api.ErrBytes},
		{"no pack within the limits", packed("\x00\x01\x00\x00\x01\x08\x00\x00"), api.ErrBytes},
		{"no instruction", packed("\x00\x01\x01p\x00\x00"), api.ErrBytes},
		{"no pack, and a phrase that may not be", packed("\x00\x02\x01p\x00\x01\x09\x00\x00\x01p\x00\x01\x09\x00\x00"), api.ErrBytes},
		{"4,000 bytes that are none's", strings.Repeat("\x00", api.MaxBytes), api.ErrBytes},
		{"4,001 bytes", strings.Repeat("\x00", api.MaxBytes+1), api.ErrLimit},
		{"very many bytes", strings.Repeat(s, 100000), api.ErrLimit},
	} {
		b, e, f := phrasebook.Load(c.bytes)
		if b != nil || e != c.e || f != (api.Fault{}) {
			t.Errorf("%s: Load = %v, %d, %v, want %d", c.what, b, e, f, c.e)
		}
	}
	if b, e, f := phrasebook.Load(s); b == nil || e != api.OK || f != (api.Fault{}) {
		t.Errorf("Load = %v, %d, %v", b, e, f)
	}
	if b, e, f := phrasebook.Load(packed("\x00\x00")); b == nil || e != api.OK || f != (api.Fault{}) {
		t.Errorf("Load of no phrase = %v, %d, %v", b, e, f)
	}
}

func TestP5LargestPacks(t *testing.T) {
	p, _ := sized(api.MaxBytes) // of strings in the text alone, but no End
	wantFault(t, "4,000 bytes", p, api.Fault{Why: api.BadNumber})
	for i := range p.Phrases {
		for k := range p.Phrases[i].Code {
			p.Phrases[i].Code[k].A = k % api.MaxStrings
		}
	}
	wantFault(t, "no End", p, api.Fault{At: 59, Why: api.BadEnd})
	for i := range p.Phrases {
		p.Phrases[i].Code[59] = end
	}
	wantFault(t, "60 instructions", p, api.Fault{})
	many := make([][]api.Ins, api.MaxPhrases)
	for i := range many {
		many[i] = list(end)
	}
	wantFault(t, "12 phrases", phrases(many...), api.Fault{})
	many[11] = list(emit, end)
	wantFault(t, "the last of 12", phrases(many...), api.Fault{Phrase: 11, Why: api.BadStack})
}

func TestP5DocumentsExamples(t *testing.T) {
	wantFault(t, "the phrase", documentPack(), api.Fault{})
	wantFaults(t, []faulty{
		{"Lit 0, End", list(lit(0), end), 1, api.BadEnd},
		{"Arg 0, Jump 3, End, Emit", list(arg(0), jump(3), end, emit), 3, api.BadEnd},
		{"Emit, End", list(emit, end), 0, api.BadStack},
		{"Lit 1, End", list(lit(1), end), 0, 0},
		{"Jump 1, End", list(jump(1), end), 0, 0},
		{"Jump 0, End", list(jump(0), end), 0, api.BadNumber},
		{"Arg 0, Same 3 4, Lit 2, Jump 5, Lit 0, End", list(arg(0), same(3, 4), lit(2), jump(5), lit(0), end), 5, api.BadMeeting},
	})
}

func TestP6BadOp(t *testing.T) {
	for op := range 256 {
		want := api.Fault{At: 1, Why: api.BadOp}
		if op <= api.End {
			want = api.Fault{}
		}
		c := api.Ins{Op: op}
		if op == api.Same || op == api.Less || op == api.Jump {
			c.B = 2
		}
		wantFault(t, "not reached", phrases(list(end, c, end)), want)
	}
	wantFaults(t, []faulty{
		{"the first", list(api.Ins{Op: 9}), 0, api.BadOp},
		{"the last, reached", list(lit(one), api.Ins{Op: 255}), 1, api.BadOp},
		{"with numbers that may not be", list(api.Ins{Op: 9, A: most, B: most}, end), 0, api.BadOp},
		{"where ways meet", list(arg(0), same(one, 3), arg(0), api.Ins{Op: 9}), 3, api.BadOp},
		{"behind one that may not be", list(emit, api.Ins{Op: 9}), 0, api.BadStack},
		{"ahead of one that may not be", list(api.Ins{Op: 9}, emit), 0, api.BadOp},
	})
}

// Of each Op which A and which B may be, of an instruction at 2 of 5 that is not reached.
func TestP6BadNumber(t *testing.T) {
	numbers := []int{0, 1, 2, 3, 4, 5, 6, howMany - 1, howMany, howMany + 1, 127, 128, most}
	for op := range api.End + 1 {
		for _, a := range numbers {
			for _, b := range numbers {
				rightA, rightB := a == 0, b == 0
				switch op {
				case api.Lit, api.Same:
					rightA = a < howMany
				case api.Arg:
					rightA = a < 3
				case api.Const:
					rightA = true
				}
				if op == api.Same || op == api.Less || op == api.Jump {
					rightB = b == 3 || b == 4
				}
				want := api.Fault{}
				if !rightA || !rightB {
					want = api.Fault{At: 2, Why: api.BadNumber}
				}
				wantFault(t, "not reached", phrases(list(lit(one), end, api.Ins{Op: op, A: a, B: b}, end, end)), want)
			}
		}
	}
}

func TestP6BadNumberReached(t *testing.T) {
	wantFaults(t, []faulty{
		{"no string", list(lit(howMany), end), 0, api.BadNumber},
		{"no string, and nowhere to go on", list(lit(howMany)), 0, api.BadNumber},
		{"no string, and no text on the stack", list(same(howMany, 1), end), 0, api.BadNumber},
		{"no argument, at a full stack", list(arg(0), arg(0), arg(0), arg(0), arg(3), end), 4, api.BadNumber},
		{"to itself", list(arg(0), same(one, 1), end), 1, api.BadNumber},
		{"to itself, at the end", list(jump(0)), 0, api.BadNumber},
		{"back", list(number(1), number(2), less(0), end), 2, api.BadNumber},
		{"back, with another stack", list(number(1), number(2), jump(1), end), 2, api.BadNumber},
		{"back, to another place", list(lit(one), lit(toValue), jump(1), end), 2, api.BadNumber},
		{"behind the last", list(jump(2), end), 0, api.BadNumber},
		{"far behind the last", list(jump(most), end), 0, api.BadNumber},
		{"to the last", list(jump(1), end), 0, 0},
		{"where ways meet", list(arg(0), same(one, 3), arg(0), api.Ins{Op: api.End, B: 1}), 3, api.BadNumber},
		{"an End that would be BadStack", list(arg(0), api.Ins{Op: api.End, A: 1}), 1, api.BadNumber},
		{"not reached, ahead of one that may not be", list(jump(2), lit(howMany), emit, end), 1, api.BadNumber},
		{"not reached, behind one that may not be", list(jump(2), end, emit, lit(howMany)), 2, api.BadStack},
		{"passed over by a way to one that may not be", list(jump(3), end, arg(3), emit), 2, api.BadNumber},
	})
	wantFault(t, "Lit of no strings", withCode(lit(0), end), api.Fault{Why: api.BadNumber})
	wantFault(t, "Arg of no arguments", withCode(arg(0), emit, end), api.Fault{Why: api.BadNumber})
	six := only(api.Phrase{Name: "p", Args: []int{0, 1, 0, 1, 0, 1}, Code: list(arg(5), emit, end)})
	wantFault(t, "the last of six arguments", six, api.Fault{})
	six.Phrases[0].Code[0].A = 6
	wantFault(t, "a seventh argument", six, api.Fault{Why: api.BadNumber})
}

func TestP6BadMeeting(t *testing.T) {
	wantFaults(t, []faulty{
		{"a value more at the next", list(arg(0), same(one, 3), arg(0), end), 3, api.BadMeeting},
		{"a value more at B", list(arg(0), arg(0), same(one, 4), emit, emit, end), 4, api.BadMeeting},
		{"another kind", list(arg(0), same(one, 4), arg(0), jump(5), number(1), emit, end), 5, api.BadMeeting},
		{"another kind below", list(arg(0), same(one, 5), arg(0), arg(0), jump(7), arg(1), arg(0), emit, emit, end), 7, api.BadMeeting},
		{"another kind above", list(arg(0), same(one, 5), arg(0), arg(1), jump(7), arg(0), arg(0), emit, emit, end), 7, api.BadMeeting},
		{"the kinds the other way round", list(arg(0), same(one, 5), arg(0), arg(1), jump(7), arg(1), arg(0), emit, emit, end), 7, api.BadMeeting},
		{"another place", list(arg(0), same(one, 3), lit(toValue), lit(fromValue), end), 3, api.BadMeeting},
		{"another place, at End", list(arg(0), same(one, 3), lit(toOpening), end), 3, api.BadMeeting},
		{"the third way", list(arg(0), same(one, 6), arg(0), same(one, 6), lit(toValue), jump(6), end), 6, api.BadMeeting},
		{"the second of three ways", list(arg(0), same(one, 7), arg(0), same(one, 6), jump(7), end, lit(toValue), end), 7, api.BadMeeting},
		{"ahead of BadStack", list(arg(0), same(one, 3), arg(1), same(one, 4), end), 3, api.BadMeeting},
		{"ahead of BadPlace", list(arg(0), same(one, 3), lit(toOpening), lit(halfWrong), end), 3, api.BadMeeting},
		{"ahead of BadEnd", list(arg(0), same(one, 3), lit(toOpening), lit(letter)), 3, api.BadMeeting},
		{"of texts of other arguments", list(arg(0), same(one, 4), arg(0), jump(5), arg(2), emit, end), 0, 0},
		{"of a number and an argument", list(arg(0), same(one, 4), number(3), jump(5), arg(1), emit, end), 0, 0},
		{"of strings of other lengths", list(arg(0), same(one, 4), lit(one), jump(5), lit(endTag), end), 0, 0},
		{"of two places with the same way on", list(arg(0), same(one, 5), lit(toOpening), lit(letter), jump(7), lit(toValue), lit(quote), lit(greater), end), 7, api.BadMeeting},
		{"of different ways that are alike", list(arg(0), same(one, 4), lit(one), jump(6), lit(toValue), lit(fromValue), end), 0, 0},
		{"of one way twice", list(arg(0), same(one, 2), end), 0, 0},
		{"with one that is not reached", list(jump(2), arg(0), end), 0, 0},
		{"with a jump that is not reached", list(lit(toValue), jump(3), jump(4), lit(fromValue), end), 0, 0},
		{"ahead of another fault", list(arg(0), same(one, 3), arg(0), jump(5), emit, end), 3, api.BadMeeting},
		{"behind another fault", list(arg(0), same(one, 4), arg(0), emit, emit, end), 4, api.BadStack},
	})
}

func TestP6BadStack(t *testing.T) {
	wantFaults(t, []faulty{
		{"Add of nothing", list(add, emit, end), 0, api.BadStack},
		{"Add of one number", list(number(1), add, emit, end), 1, api.BadStack},
		{"Add of a number on a text", list(arg(0), number(1), add, emit, end), 2, api.BadStack},
		{"Add of a text on a number", list(arg(1), arg(0), add, emit, end), 2, api.BadStack},
		{"Add of two numbers on a text", list(arg(0), number(1), arg(1), add, emit, emit, end), 0, 0},
		{"Add at a full stack", list(number(1), number(2), number(3), number(4), add, add, add, emit, end), 0, 0},
		{"Add leaves one", list(number(1), number(2), add, end), 3, api.BadStack},
		{"Add lays a number", list(number(1), number(2), add, same(one, 4), end), 3, api.BadStack},
		{"Emit of nothing", list(emit, end), 0, api.BadStack},
		{"Emit of nothing, where nothing may be put out", list(lit(toOpening), emit, end), 1, api.BadStack},
		{"Emit of nothing, as the last", list(emit), 0, api.BadStack},
		{"Emit of more than there were", list(arg(0), emit, emit, end), 2, api.BadStack},
		{"Same of nothing", list(same(one, 1), end), 0, api.BadStack},
		{"Same of a number", list(arg(1), same(one, 2), end), 1, api.BadStack},
		{"Same of a number on a text", list(arg(0), number(1), same(one, 3), end), 2, api.BadStack},
		{"Same of a text on a number", list(number(1), arg(0), same(one, 3), emit, end), 0, 0},
		{"Less of nothing", list(less(1), end), 0, api.BadStack},
		{"Less of one number", list(number(1), less(2), end), 1, api.BadStack},
		{"Less of a number on a text", list(arg(0), arg(1), less(3), end), 2, api.BadStack},
		{"Less of a text on a number", list(arg(1), arg(2), less(3), end), 2, api.BadStack},
		{"Less of two numbers", list(number(0), arg(1), less(3), end), 0, 0},
		{"Less takes two", list(number(0), arg(1), less(3), emit, end), 3, api.BadStack},
		{"four values", list(arg(0), arg(1), number(most), arg(2), emit, emit, emit, emit, end), 0, 0},
		{"Arg at four", list(arg(0), arg(1), number(0), arg(2), arg(0), emit, end), 4, api.BadStack},
		{"Const at four", list(arg(0), arg(1), number(0), arg(2), number(0), emit, end), 4, api.BadStack},
		{"Arg at four, as the last", list(arg(0), arg(0), arg(0), arg(0), arg(0)), 4, api.BadStack},
		{"four again", list(arg(0), arg(0), arg(0), arg(0), emit, arg(0), emit, emit, emit, emit, end), 0, 0},
		{"End of a value", list(arg(0), end), 1, api.BadStack},
		{"End of a value, at no end of the page", list(lit(toValue), arg(0), end), 2, api.BadStack},
		{"at B of Same alone", list(arg(0), same(one, 3), end, emit, end), 3, api.BadStack},
		{"at B of Less alone", list(number(0), arg(1), less(4), end, emit, end), 4, api.BadStack},
		{"at the next of Same", list(arg(0), same(one, 3), emit, end), 2, api.BadStack},
		{"at the next of Less alone", list(number(0), arg(1), less(4), emit, end), 3, api.BadStack},
		{"not reached", list(end, emit, add, less(4), end), 0, 0},
		{"behind a Jump", list(jump(2), emit, end), 0, 0},
		{"at the end of a Jump", list(arg(0), jump(3), end, end), 3, api.BadStack},
	})
}

func TestP6BadPlace(t *testing.T) {
	wantFaults(t, []faulty{
		{"a byte with no way on", list(lit(toOpening), lit(toOpening), end), 1, api.BadPlace},
		{"a last byte with no way on", list(lit(halfWrong), end), 0, api.BadPlace},
		{"as the last", list(lit(halfWrong)), 0, api.BadPlace},
		{"with a value on the stack", list(arg(0), lit(halfWrong), end), 1, api.BadPlace},
		{"not reached", list(end, lit(halfWrong)), 0, 0},
		{"at B alone", list(arg(0), same(one, 3), end, lit(halfWrong), end), 3, api.BadPlace},
		{"a tag in a value", list(lit(toValue), lit(toValue), end), 1, api.BadPlace},
		{"an end tag in a value", list(lit(toValue), lit(endTag), end), 1, api.BadPlace},
		{"a value's end in the text", list(lit(fromValue), end), 0, 0},
		{"an empty string anywhere", list(lit(empty), lit(toOpening), lit(empty), lit(letter), lit(empty), lit(greater), end), 0, 0},
		{"Emit as the last, in a tag", list(arg(0), lit(toOpening), lit(letter), emit), 3, api.BadPlace},
		{"Emit of a number in a tag", list(arg(1), lit(toOpening), lit(letter), emit, end), 3, api.BadPlace},
	})
}

// ways are strings that lead from the text to each other place.
func waysTo() map[string][]int {
	return map[string][]int{
		"text":    {one},
		"opening": {toOpening},
		"closing": {toOpening, slash},
		"end tag": {toOpening, slash, letter},
		"tag":     {toOpening, letter},
		"between": {toOpening, letter, blank},
		"name":    {toOpening, letter, blank, letter},
		"equals":  {toOpening, letter, blank, letter, equals},
		"value":   {toOpening, letter, blank, letter, equals, quote},
		"behind":  {toOpening, letter, blank, letter, equals, quote, quote},
	}
}

func TestP6EmitAndEndAtEachPlace(t *testing.T) {
	for place, lits := range waysTo() {
		c := list(arg(0))
		for _, a := range lits {
			c = append(c, lit(a))
		}
		at := len(c)
		if place == "text" || place == "value" {
			wantFault(t, "Emit at "+place, phrases(append(c, emit)), api.Fault{At: at, Why: api.BadEnd})
		} else {
			wantFault(t, "Emit at "+place, phrases(append(c, emit)), api.Fault{At: at, Why: api.BadPlace})
		}
		want := api.Fault{At: at - 1, Why: api.BadEnd}
		if place == "text" {
			want = api.Fault{}
		}
		wantFault(t, "End at "+place, phrases(append(c[1:at:at], end)), want)
	}
	wantFaults(t, []faulty{
		{"Emit stays in the text", list(arg(0), emit, end), 0, 0},
		{"Emit stays in the value", list(lit(toValue), arg(0), emit, arg(1), emit, lit(fromValue), end), 0, 0},
		{"Emit leads out of no value", list(lit(toValue), arg(0), emit, end), 3, api.BadEnd},
	})
}

func TestP6BadEnd(t *testing.T) {
	wantFaults(t, []faulty{
		{"Lit as the last", list(lit(one)), 0, api.BadEnd},
		{"Arg as the last", list(arg(0)), 0, api.BadEnd},
		{"Const as the last", list(number(0)), 0, api.BadEnd},
		{"Add as the last", list(number(0), number(0), add), 2, api.BadEnd},
		{"Emit as the last", list(number(0), emit), 1, api.BadEnd},
		{"the last at B", list(arg(0), same(one, 3), end, lit(one)), 3, api.BadEnd},
		{"the last behind Same", list(arg(0), same(one, 2), lit(one)), 2, api.BadEnd},
		{"the last behind Less", list(number(0), number(0), less(3), lit(one)), 3, api.BadEnd},
		{"the last not reached", list(end, lit(one)), 0, 0},
		{"the last passed over", list(jump(2), lit(one), end), 0, 0},
		{"one of two Ends", list(arg(0), same(one, 3), end, lit(toValue), end), 4, api.BadEnd},
		{"the first of two Ends", list(arg(0), same(one, 4), lit(toOpening), end, end), 3, api.BadEnd},
		{"an End alone", list(end), 0, 0},
	})
}

func TestP6FirstPhrase(t *testing.T) {
	good, goodToo := list(lit(one), end), list(arg(1), emit, end)
	stack, op, place := list(lit(one), emit, end), list(api.Ins{Op: 9}), list(lit(one), lit(one), lit(halfWrong), end)
	for _, c := range []struct {
		what string
		pack api.Pack
		want api.Fault
	}{
		{"none", phrases(good, goodToo, good), api.Fault{}},
		{"the first", phrases(stack, good, goodToo), api.Fault{Phrase: 0, At: 1, Why: api.BadStack}},
		{"the last", phrases(good, goodToo, place), api.Fault{Phrase: 2, At: 2, Why: api.BadPlace}},
		{"two", phrases(good, stack, op), api.Fault{Phrase: 1, At: 1, Why: api.BadStack}},
		{"two the other way round", phrases(good, op, stack), api.Fault{Phrase: 1, At: 0, Why: api.BadOp}},
		{"two apart", phrases(good, goodToo, place, good, stack), api.Fault{Phrase: 2, At: 2, Why: api.BadPlace}},
		{"all", phrases(place, stack, op), api.Fault{Phrase: 0, At: 2, Why: api.BadPlace}},
		{"twelve", phrases(good, good, good, place, op, op, op, op, op, op, op, op), api.Fault{Phrase: 3, At: 2, Why: api.BadPlace}},
	} {
		for range 50 { // however the goroutines run
			wantFault(t, c.what, c.pack, c.want)
		}
	}
}

// A phrase has its own arguments: what another one of the pack has doesn't count.
func TestP6OwnArguments(t *testing.T) {
	p := phrases(list(arg(0), emit, end), list(arg(0), emit, end))
	p.Phrases[1].Args = nil
	wantFault(t, "no arguments", p, api.Fault{Phrase: 1, Why: api.BadNumber})
	p.Phrases[1] = api.Phrase{Name: "b", Args: []int{api.Number}, Code: list(arg(0), same(one, 2), end)}
	wantFault(t, "a number", p, api.Fault{Phrase: 1, At: 1, Why: api.BadStack})
}

// A goroutine that is left behind would make synctest.Test fail.
func TestLoadLeavesNothingRunning(t *testing.T) {
	synctest.Test(t, func(t *testing.T) {
		wantFault(t, "sound", phrases(list(end), list(end), list(end)), api.Fault{})
		wantFault(t, "not sound", phrases(list(emit), list(end), list(emit)), api.Fault{Why: api.BadStack})
		wantFault(t, "nothing", api.Pack{}, api.Fault{})
	})
}
