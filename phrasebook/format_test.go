package phrasebook_test

import (
	"math"
	"strings"
	"testing"
	"unsafe"

	"phrasebook/api"
	"phrasebook/phrasebook"
)

func textOf(s string) api.Value { return api.Value{Kind: api.Text, Text: s} }

func numberOf(n int) api.Value { return api.Value{Kind: api.Number, Number: n} }

func row(v ...api.Value) []api.Value { return v }

// threeOf is a row for the phrases under test.
func threeOf(first string, n int, last string) []api.Value {
	return row(textOf(first), numberOf(n), textOf(last))
}

func wantOut(t *testing.T, what string, b *phrasebook.Book, name string, args []api.Value, want string) {
	t.Helper()
	if s, e := b.Format(name, args); s != want || e != api.OK {
		t.Errorf("%s: Format = %q, %d, want %q", what, s, e, want)
	}
}

func wantErr(t *testing.T, what string, b *phrasebook.Book, name string, args []api.Value, want api.Errno) {
	t.Helper()
	if s, e := b.Format(name, args); s != "" || e != want {
		t.Errorf("%s: Format = %.60q, %d, want %d", what, s, e, want)
	}
}

func TestP9DocumentsExample(t *testing.T) {
	b := loaded(t, documentPack())
	wantOut(t, "the phrase", b, "p", row(textOf("a<b"), numberOf(-7)), `<p title="a&lt;b">-7</p>`)
	wantOut(t, "of nothing", b, "p", row(textOf(""), numberOf(0)), `<p title="">0</p>`)
}

func TestP9Instructions(t *testing.T) {
	for _, c := range []struct {
		what string
		code []api.Ins
		want string // of x, 5, z
	}{
		{"End", list(end), ""},
		{"End ahead of more", list(end, lit(one), end), ""},
		{"Lit", list(lit(one), end), "one"},
		{"Lit of nothing", list(lit(empty), end), ""},
		{"Lit twice", list(lit(one), lit(endTag), lit(one), end), "one</p>one"},
		{"Lit as it is", list(lit(toValue), lit(fromValue), lit(fromValue), end), `<p title="">">`},
		{"Arg of a text", list(arg(0), emit, end), "x"},
		{"Arg of another", list(arg(2), emit, end), "z"},
		{"Arg of a number", list(arg(1), emit, end), "5"},
		{"Const", list(number(7), emit, end), "7"},
		{"Const 0", list(number(0), emit, end), "0"},
		{"the greatest Const", list(number(most), emit, end), "2147483647"},
		{"Add", list(number(7), arg(1), add, emit, end), "12"},
		{"Add of what was added", list(arg(1), arg(1), arg(1), add, add, emit, end), "15"},
		{"Add leaves what is below", list(arg(0), arg(1), number(1), add, emit, emit, end), "6x"},
		{"Add of the upper two", list(number(1), number(20), number(300), add, emit, emit, end), "3201"},
		{"Emit takes the upper one", list(arg(0), arg(2), emit, emit, end), "zx"},
		{"Emit of all the stack", list(arg(0), arg(1), arg(2), number(4), emit, emit, emit, emit, end), "4z5x"},
		{"Emit in a value", list(lit(toValue), arg(0), emit, arg(1), emit, lit(fromValue), end), `<p title="x5">`},
		{"a value laid ahead of a string", list(arg(0), lit(toValue), emit, lit(fromValue), end), `<p title="x">`},
		{"Same that is not", list(arg(0), same(one, 3), lit(one), lit(endTag), end), "</p>"},
		{"Same takes the upper one", list(arg(0), arg(2), same(one, 3), emit, end), "x"},
		{"Less that is", list(arg(1), number(6), less(4), lit(one), lit(endTag), end), "one</p>"},
		{"Less that is not", list(number(6), arg(1), less(4), lit(one), lit(endTag), end), "</p>"},
		{"Less of the same", list(arg(1), number(5), less(4), lit(one), lit(endTag), end), "</p>"},
		{"Less takes both", list(arg(0), number(1), number(2), less(4), emit, end), "x"},
		{"Less takes both, by B too", list(arg(0), number(2), number(1), less(4), emit, end), "x"},
		{"Less of the upper two", list(number(9), number(1), number(2), less(5), lit(one), emit, end), "one9"},
		{"Jump", list(jump(2), lit(one), lit(endTag), end), "</p>"},
		{"Jump to the next", list(jump(1), lit(one), end), "one"},
		{"Jump over an End", list(jump(2), end, lit(one), end), "one"},
		{"Jump from Jump", list(jump(2), lit(one), jump(4), lit(one), end), ""},
		{"Jump leaves the stack", list(arg(0), jump(3), lit(one), emit, end), "x"},
	} {
		wantOut(t, c.what, loaded(t, phrases(c.code)), "a", threeOf("x", 5, "z"), c.want)
	}
}

func TestP9Same(t *testing.T) {
	b := loaded(t, phrases(
		list(arg(0), same(one, 4), lit(one), jump(5), lit(endTag), end),
		list(arg(0), same(empty, 3), lit(one), end),
		list(arg(0), same(toValue, 3), lit(one), end),
		list(arg(0), arg(0), same(one, 5), arg(2), jump(6), arg(0), emit, emit, end),
	))
	for _, s := range []string{"", "on", "ones", "One", "one ", " one", "one\x00", "o", "onf", "&", strings.Repeat("one", 1<<20)} {
		wantOut(t, "not same", b, "a", threeOf(s, 0, "one"), "</p>")
	}
	wantOut(t, "same", b, "a", threeOf("one", 0, ""), "one")
	wantOut(t, "same, but another's memory", b, "a", threeOf(strings.Clone("one"), 0, ""), "one")
	wantOut(t, "nothing is the empty string", b, "b", threeOf("", 0, "x"), "one")
	wantOut(t, "something is not the empty string", b, "b", threeOf("x", 0, ""), "")
	wantOut(t, "as bytes, not as HTML", b, "c", threeOf(`<p title="`, 0, ""), "one")
	wantOut(t, "as HTML it is not", b, "c", threeOf(`&lt;p title=&quot;`, 0, ""), "")
	wantOut(t, "another value behind Same", b, "d", threeOf("one", 0, "z"), "zone")
	wantOut(t, "another value behind B", b, "d", threeOf("two", 0, "z"), "twotwo")
}

// numbersPack has phrases of two numbers: their sum, and whether the first is less.
func numbersPack() api.Pack {
	two := []int{api.Number, api.Number}
	return api.Pack{Strings: strs(), Phrases: []api.Phrase{
		{Name: "sum", Args: two, Code: list(arg(0), arg(1), add, emit, end)},
		{Name: "less", Args: two, Code: list(arg(0), arg(1), less(4), lit(one), end)},
		{Name: "more", Args: two, Code: list(arg(0), number(most), add, arg(1), less(6), lit(one), end)},
	}}
}

func TestP9Sums(t *testing.T) {
	b := loaded(t, numbersPack())
	for _, c := range []struct {
		first, second int
		want          string
	}{
		{0, 0, "0"}, {1, 2, "3"}, {-1, 1, "0"}, {-3, -4, "-7"}, {3, -4, "-1"},
		{1 << 40, 1 << 40, "2199023255552"},
		{math.MaxInt, 0, "9223372036854775807"}, {math.MinInt, 0, "-9223372036854775808"},
		{math.MaxInt, 1, "-9223372036854775808"}, {1, math.MaxInt, "-9223372036854775808"},
		{math.MinInt, -1, "9223372036854775807"}, {-1, math.MinInt, "9223372036854775807"},
		{math.MaxInt, math.MaxInt, "-2"}, {math.MinInt, math.MinInt, "0"}, {math.MaxInt, math.MinInt, "-1"},
		{math.MaxInt - 9, 10, "-9223372036854775808"}, {math.MinInt + 9, -10, "9223372036854775807"},
	} {
		wantOut(t, c.want, b, "sum", row(numberOf(c.first), numberOf(c.second)), c.want)
	}
	// A sum that wrapped round is less than what it was made of.
	wantOut(t, "a sum is compared as it wrapped", b, "more", row(numberOf(math.MaxInt), numberOf(0)), "one")
	wantOut(t, "a sum that did not wrap", b, "more", row(numberOf(1), numberOf(0)), "")
}

func TestP9Less(t *testing.T) {
	b := loaded(t, numbersPack())
	rising := []int{math.MinInt, math.MinInt + 1, -1 << 31, -10, -2, -1, 0, 1, 2, 9, 10, 1 << 31, math.MaxInt - 1, math.MaxInt}
	for i, first := range rising {
		for k, second := range rising {
			want := ""
			if i < k {
				want = "one"
			}
			wantOut(t, "less", b, "less", row(numberOf(first), numberOf(second)), want)
		}
	}
}

func TestP9Numbers(t *testing.T) {
	b := loaded(t, phrases(
		list(arg(1), emit, end),
		list(lit(toValue), arg(1), emit, lit(fromValue), end),
	))
	for n, want := range map[int]string{
		0: "0", 1: "1", -1: "-1", 9: "9", 10: "10", -10: "-10", 100: "100", 999: "999", 1000: "1000", 1234567890: "1234567890",
		1 << 31: "2147483648", -1 << 31: "-2147483648", 1 << 53: "9007199254740992", 1<<53 + 1: "9007199254740993",
		math.MaxInt: "9223372036854775807", math.MaxInt - 1: "9223372036854775806",
		math.MinInt: "-9223372036854775808", math.MinInt + 1: "-9223372036854775807",
	} {
		wantOut(t, "in text", b, "a", threeOf("", n, ""), want)
		wantOut(t, "in a value", b, "b", threeOf("", n, ""), `<p title="`+want+`">`)
	}
}

func TestP9Bytes(t *testing.T) {
	b := loaded(t, phrases(
		list(arg(0), emit, end),
		list(lit(toValue), arg(0), emit, lit(fromValue), end),
	))
	changed := map[byte]string{'&': "&amp;", '<': "&lt;", '>': "&gt;", '"': "&quot;", '\'': "&#39;"}
	every, becomes := "", ""
	for n := range 256 {
		s := string([]byte{byte(n)})
		want, is := changed[byte(n)]
		if !is {
			want = s
		}
		every, becomes = every+s, becomes+want
		wantOut(t, "a byte in text", b, "a", threeOf(s, 0, ""), want)
		wantOut(t, "a byte in a value", b, "b", threeOf(s, 0, ""), `<p title="`+want+`">`)
	}
	wantOut(t, "all bytes", b, "a", threeOf(every, 0, ""), becomes)
	for s, want := range map[string]string{
		"&amp;": "&amp;amp;", "<<>>": "&lt;&lt;&gt;&gt;", "é€😀": "é€😀", "\xe2\x82": "\xe2\x82", "\xc3<": "\xc3&lt;",
		`" onclick="x`: "&quot; onclick=&quot;x", "</p><script>": "&lt;/p&gt;&lt;script&gt;", "": "", " \t\r\n": " \t\r\n",
	} {
		wantOut(t, "bytes in text", b, "a", threeOf(s, 0, ""), want)
		wantOut(t, "bytes in a value", b, "b", threeOf(s, 0, ""), `<p title="`+want+`">`)
	}
}

// What stands in a string is put out as it is, whatever its bytes would become in an argument.
func TestP9StringsAsTheyAre(t *testing.T) {
	s := "&amp; & ' \" > \x00\xff\xc3 é"
	p := api.Pack{Strings: []string{s}, Phrases: []api.Phrase{{Name: "p", Code: list(lit(0), end)}}}
	wantOut(t, "a string", loaded(t, p), "p", nil, s)
}

func TestP9NoSuchPhrase(t *testing.T) {
	b := loaded(t, phrases(list(lit(one), end), list(lit(endTag), end)))
	good := threeOf("x", 1, "y")
	for _, name := range []string{"", "c", "A", "aa", "ab", "a\x00", " a", "one", strings.Repeat("a", 1<<20)} {
		wantErr(t, "another name", b, name, good, api.ErrName)
		wantErr(t, "another name, no values", b, name, nil, api.ErrName)
		wantErr(t, "another name, values too large", b, name, threeOf(strings.Repeat("x", 5000), 1, ""), api.ErrName)
	}
	wantOut(t, "the first", b, "a", good, "one")
	wantOut(t, "the second", b, "b", good, "</p>")
	wantErr(t, "of no phrases", loaded(t, api.Pack{}), "", nil, api.ErrName)
}

func TestP9Args(t *testing.T) {
	b := loaded(t, phrases(list(lit(one), end))) // even one that uses none of its arguments
	for what, args := range map[string][]api.Value{
		"none":                    nil,
		"an empty row":            {},
		"one":                     row(textOf("x")),
		"one too few":             threeOf("x", 1, "y")[:2],
		"one too many":            append(threeOf("x", 1, "y"), textOf("")),
		"very many":               make([]api.Value, 1<<20),
		"a number for a text":     row(numberOf(0), numberOf(1), textOf("y")),
		"a number for the last":   row(textOf("x"), numberOf(1), numberOf(0)),
		"a text for a number":     row(textOf("x"), textOf(""), textOf("y")),
		"a text of digits":        row(textOf("x"), textOf("1"), textOf("y")),
		"texts alone":             make([]api.Value, 3),
		"the other way round":     row(numberOf(1), textOf("x"), numberOf(1)),
		"kind 2":                  row(textOf("x"), numberOf(1), api.Value{Kind: 2}),
		"kind 2 for a number":     row(textOf("x"), api.Value{Kind: 2, Number: 1}, textOf("y")),
		"kind -1":                 row(api.Value{Kind: -1, Text: "x"}, numberOf(1), textOf("y")),
		"kind 256":                row(api.Value{Kind: 256}, numberOf(1), textOf("y")),
		"kind 1 + 2^32":           row(textOf("x"), api.Value{Kind: 1 + 1<<32}, textOf("y")),
		"the least kind":          row(textOf("x"), numberOf(1), api.Value{Kind: math.MinInt}),
		"a text with a number":    row(api.Value{Text: "x", Number: 1}, numberOf(1), textOf("y")),
		"a text with one below":   row(textOf("x"), numberOf(1), api.Value{Number: -1}),
		"a number with a text":    row(textOf("x"), api.Value{Kind: api.Number, Number: 1, Text: "y"}, textOf("y")),
		"a 0 with a text":         row(textOf("x"), api.Value{Kind: api.Number, Text: "\x00"}, textOf("y")),
		"the right ones, shifted": row(numberOf(1), textOf("x"), textOf("y")),
	} {
		wantErr(t, what, b, "a", args, api.ErrArgs)
	}
	wantOut(t, "the right ones", b, "a", threeOf("x", 1, "y"), "one")
	wantOut(t, "the least ones", b, "a", threeOf("", 0, ""), "one")
}

func TestP9NoArgs(t *testing.T) {
	b := loaded(t, withNames("p"))
	wantOut(t, "nil", b, "p", nil, "")
	wantOut(t, "an empty row", b, "p", row(), "")
	wantOut(t, "an empty row with room", b, "p", threeOf("x", 1, "y")[:0], "")
	wantErr(t, "one", b, "p", row(textOf("")), api.ErrArgs)
	wantErr(t, "a number", b, "p", row(numberOf(0)), api.ErrArgs)
}

func TestP9SixArgs(t *testing.T) {
	c, args := list(), row()
	for i := range api.MaxArgs {
		c = append(c, arg(i), emit)
		args = append(args, textOf(letters(6)[i]))
	}
	p := api.Pack{Phrases: []api.Phrase{{Name: "p", Args: make([]int, 6), Code: append(c, end)}}}
	b := loaded(t, p)
	wantOut(t, "six", b, "p", args, "abcdef")
	wantErr(t, "five", b, "p", args[:5], api.ErrArgs)
	wantErr(t, "seven", b, "p", append(args, textOf("g")), api.ErrArgs)
	args[5] = numberOf(1)
	wantErr(t, "the last is a number", b, "p", args, api.ErrArgs)
}

func xs(n int) string { return strings.Repeat("x", n) }

func TestP9Large(t *testing.T) {
	b := loaded(t, phrases(
		list(arg(0), emit, end),                               // 6 times the first
		list(lit(fromValue), arg(0), emit, end),               // 2, and 6 times
		list(lit(one), arg(0), emit, end),                     // 3, and 6 times
		list(arg(1), emit, arg(0), emit, end),                 // 20, and 6 times
		list(arg(1), emit, lit(letter), arg(0), emit, end),    // 21, and 6 times
		list(arg(0), emit, arg(2), emit, end),                 // 6 times each
		list(lit(fromValue), arg(0), emit, arg(0), emit, end), // 2, and 12 times the first
		list(arg(2), same(one, 4), arg(0), emit, end),         // 6 times the first, if the last is one
	))
	for _, c := range []struct {
		what, name  string
		first, last int
		want        string // "": ErrLarge
	}{
		{"1,998", "a", 333, 0, xs(333)},
		{"2,004", "a", 334, 0, ""},
		{"millions", "a", 9000000, 0, ""},
		{"the other does not count", "a", 333, 9000000, xs(333)},
		{"2,000", "b", 333, 0, `">` + xs(333)},
		{"2,006", "b", 334, 0, ""},
		{"2,001", "c", 333, 0, ""},
		{"1,995", "c", 332, 0, "one" + xs(332)},
		{"2,000 with a number", "d", 330, 0, "7" + xs(330)},
		{"2,006 with a number", "d", 331, 0, ""},
		{"2,001 with a number", "e", 330, 0, ""},
		{"1,995 with a number", "e", 329, 0, "7a" + xs(329)},
		{"1,998 of two", "f", 166, 167, xs(333)},
		{"1,998 of the last", "f", 0, 333, xs(333)},
		{"2,004 of two", "f", 167, 167, ""},
		{"2,004 of the last", "f", 0, 334, ""},
		{"millions of both", "f", 3000000, 3000000, ""},
		{"millions of the last", "f", 0, 3000000, ""},
		{"1,994 of one twice", "g", 166, 0, `">` + xs(332)},
		{"2,006 of one twice", "g", 167, 0, ""},
		{"what could be, not what is", "h", 334, 1, ""},
	} {
		args := threeOf(xs(c.first), 7, xs(c.last))
		if c.want == "" {
			wantErr(t, c.what, b, c.name, args, api.ErrLarge)
			continue
		}
		wantOut(t, c.what, b, c.name, args, c.want)
	}
	wantOut(t, "333 that grow", b, "a", threeOf(strings.Repeat(`"`, 333), 0, ""), strings.Repeat("&quot;", 333))
	wantOut(t, "2,000 bytes come out", b, "b", threeOf(strings.Repeat(`"`, 333), 0, ""), `">`+strings.Repeat("&quot;", 333))
}

// Strings and numbers alone can be too large, whatever the arguments are.
func TestP9LargeWithoutTexts(t *testing.T) {
	p := api.Pack{Strings: []string{xs(60), xs(20), xs(1)}}
	long := append(code(33), lit(1)) // 2,000
	p.Phrases = []api.Phrase{
		{Name: "most", Code: append(long[:34:34], end)},
		{Name: "above", Code: append(long[:34:34], lit(2), end)},
		{Name: "number", Code: append(code(33), number(1), emit, end)},
		{Name: "numbers", Code: append(code(33), number(1), emit, number(1), emit, end)},
		{Name: "text", Args: []int{api.Text}, Code: append(long[:34:34], arg(0), emit, end)},
		{Name: "way", Args: []int{api.Text}, Code: append(list(arg(0), same(2, 37)), append(long[:34:34], lit(2), end)...)},
	}
	b := loaded(t, p)
	wantOut(t, "2,000", b, "most", nil, xs(2000))
	wantErr(t, "2,001", b, "above", nil, api.ErrLarge)
	wantOut(t, "2,000 with a number", b, "number", nil, xs(1980)+"1")
	wantErr(t, "2,020 with numbers", b, "numbers", nil, api.ErrLarge)
	wantOut(t, "2,000 and nothing", b, "text", row(textOf("")), xs(2000))
	wantErr(t, "2,000 and a byte", b, "text", row(textOf("y")), api.ErrLarge)
	wantErr(t, "a way that is not gone", b, "way", row(textOf("y")), api.ErrLarge)
	wantErr(t, "no values, and too large", b, "text", nil, api.ErrArgs)
	wantErr(t, "a value too many, and too large", b, "above", row(textOf("")), api.ErrArgs)
}

// seeming is a string that tells a length which no memory has; only its length may be asked for.
func seeming(n int) string {
	head := struct {
		first *byte
		n     int
	}{new(byte), n}
	return *(*string)(unsafe.Pointer(&head))
}

// Products and sums in 64 bits would come back to small numbers, to 0 or to numbers below it.
func TestP9LargeWithoutBound(t *testing.T) {
	two := list(arg(0), emit, arg(0), emit, end)
	eight := list()
	for range 8 {
		eight = append(eight, arg(0), emit)
	}
	b := loaded(t, phrases(list(arg(0), emit, end), two, append(eight, end), list(arg(0), emit, arg(2), emit, end), list(arg(2), same(one, 2), end)))
	for _, name := range []string{"a", "b", "c", "d"} {
		for _, n := range []int{math.MaxInt, math.MaxInt / 2, math.MaxInt/3 + 1, math.MaxInt / 6, math.MaxInt/6 + 1, 1 << 62, 1 << 61, 1 << 60, 1 << 59, 1 << 58, 1 << 33, 1 << 32, 1 << 31, 715827883, 3074457345618258603} {
			long := textOf(seeming(n))
			wantErr(t, name, b, name, row(long, numberOf(0), textOf("")), api.ErrLarge)
			wantErr(t, name, b, name, row(long, numberOf(0), long), api.ErrLarge)
		}
	}
	wantOut(t, "not put out", b, "e", row(textOf(seeming(math.MaxInt)), numberOf(0), textOf(seeming(1<<62))), "")
	wantErr(t, "a number with a text", b, "e", row(textOf(""), api.Value{Kind: api.Number, Text: seeming(1 << 62)}, textOf("")), api.ErrArgs)
}

func TestP9SeveralErrors(t *testing.T) {
	b := loaded(t, phrases(list(arg(0), emit, end)))
	long := strings.Repeat("x", 5000)
	wantErr(t, "name and values", b, "b", row(numberOf(1)), api.ErrName)
	wantErr(t, "name and size", b, "b", threeOf(long, 1, ""), api.ErrName)
	wantErr(t, "name, values and size", b, "", row(textOf(long)), api.ErrName)
	wantErr(t, "values and size", b, "a", row(textOf(long)), api.ErrArgs)
	wantErr(t, "one value and size", b, "a", row(textOf(long), numberOf(1), numberOf(1)), api.ErrArgs)
	wantErr(t, "too many values and size", b, "a", append(threeOf(long, 1, ""), textOf(long)), api.ErrArgs)
	wantErr(t, "size", b, "a", threeOf(long, 1, ""), api.ErrLarge)
}

func TestP9LongestPhrase(t *testing.T) {
	c := list()
	for range 19 {
		c = append(c, arg(0), emit, lit(letter))
	}
	c = append(c, number(1), emit, end)
	b := loaded(t, phrases(c))
	wantOut(t, "60 instructions", b, "a", threeOf("<", 0, ""), strings.Repeat("&lt;a", 19)+"1")
}
