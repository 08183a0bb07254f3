package phrasebook_test

import (
	"fmt"
	"strings"

	"phrasebook/api"
)

const most = 1<<31 - 1

// seal puts the sum behind some bytes, as the document words it.
func seal(body string) string {
	s := 1
	for _, b := range []byte(body) {
		s = (s*263 + int(b) + 1) % 65521
	}
	return body + string([]byte{byte(s % 256), byte(s / 256)})
}

// packed seals what stands behind the head.
func packed(body string) string { return seal("PB\x01" + body) }

func code(n int) []api.Ins { return make([]api.Ins, n) }

// only is a pack of one phrase.
func only(f api.Phrase) api.Pack { return api.Pack{Phrases: []api.Phrase{f}} }

func withCode(c ...api.Ins) api.Pack { return only(api.Phrase{Name: "p", Code: c}) }

func withArgs(kinds ...int) api.Pack {
	return only(api.Phrase{Name: "p", Args: kinds, Code: code(1)})
}

func withStrings(s ...string) api.Pack { return api.Pack{Strings: s} }

func named(names ...string) api.Pack {
	var p api.Pack
	for _, n := range names {
		p.Phrases = append(p.Phrases, api.Phrase{Name: n, Code: code(1)})
	}
	return p
}

// letters are n names of one byte, no two the same.
func letters(n int) []string {
	var all []string
	for i := range n {
		all = append(all, string([]byte{byte('a' + i)}))
	}
	return all
}

// text tells all of a pack, nil lists as empty ones.
func text(p api.Pack) string {
	var b strings.Builder
	fmt.Fprintf(&b, "%q", p.Strings)
	for _, f := range p.Phrases {
		fmt.Fprintf(&b, " %q %v %v", f.Name, f.Args, f.Code)
	}
	return b.String()
}

// sized makes a pack that has n bytes (3,919 to 4,100), and them.
func sized(n int) (api.Pack, string) {
	p := api.Pack{Strings: make([]string, api.MaxStrings)}
	body := "PB\x01\x28"
	for i := range p.Strings {
		p.Strings[i] = strings.Repeat("s", api.MaxString)
		body += "\x3c" + p.Strings[i]
	}
	body += "\x08"
	more := n - 3919 // that is how many there are with an A of one byte everywhere
	for i := range 8 {
		f := api.Phrase{Name: letters(8)[i], Code: code(api.MaxCode)}
		body += "\x01" + f.Name + "\x00\x3c"
		for k := range f.Code {
			switch {
			case more >= 4:
				f.Code[k].A = most
				body += "\x00\xff\xff\xff\xff\x07\x00"
				more -= 4
			case more > 0:
				f.Code[k].A = 128
				body += "\x00\x80\x01\x00"
				more--
			default:
				body += "\x00\x00\x00"
			}
		}
		p.Phrases = append(p.Phrases, f)
	}
	return p, seal(body)
}

// pairs are packs with their bytes.
func pairs() []pair {
	return []pair{
		{"nothing", api.Pack{}, packed("\x00\x00")},
		{"lists of nothing", api.Pack{Strings: []string{}, Phrases: []api.Phrase{}}, packed("\x00\x00")},
		{"strings of any bytes", withStrings("", "a", "\x00\xff<", ""), packed("\x04\x00\x01a\x03\x00\xff<\x00\x00")},
		{"one string twice", withStrings("a", "a"), packed("\x02\x01a\x01a\x00")},
		{"a phrase", named("p"), packed("\x00\x01\x01p\x00\x01\x00\x00\x00")},
		{"two phrases", named("q", "p"), packed("\x00\x02\x01q\x00\x01\x00\x00\x00\x01p\x00\x01\x00\x00\x00")},
		{"names with one beginning", named("p", "pp"), packed("\x00\x02\x01p\x00\x01\x00\x00\x00\x02pp\x00\x01\x00\x00\x00")},
		{"kinds", withArgs(1, 0, 0, 1, 1, 0), packed("\x00\x01\x01p\x06\x01\x00\x00\x01\x01\x00\x01\x00\x00\x00")},
		{"every Op", withCode(everyOp(0, 60)...), packed("\x00\x01\x01p\x00\x3c" + everyOpBytes(0, 60))},
		{"the last Ops", withCode(everyOp(196, 60)...), packed("\x00\x01\x01p\x00\x3c" + everyOpBytes(196, 60))},
		{"numbers", withCode(api.Ins{A: 1, B: 127}, api.Ins{A: 128, B: 16383}, api.Ins{A: 16384, B: 2097151}, api.Ins{A: 2097152, B: 268435455}, api.Ins{A: 268435456, B: most}, api.Ins{A: most, B: 300}),
			packed("\x00\x01\x01p\x00\x06" + "\x00\x01\x7f" + "\x00\x80\x01\xff\x7f" + "\x00\x80\x80\x01\xff\xff\x7f" + "\x00\x80\x80\x80\x01\xff\xff\xff\x7f" + "\x00\x80\x80\x80\x80\x01\xff\xff\xff\xff\x07" + "\x00\xff\xff\xff\xff\x07\xac\x02")},
		{"the document's phrase", documentPack(), packed("\x04\x0a<p title=\"\x02\">\x04</p>\x03one" + "\x01\x01p\x02\x00\x01\x08" + "\x00\x00\x00\x01\x00\x00\x04\x00\x00\x00\x01\x00\x01\x01\x00\x04\x00\x00\x00\x02\x00\x08\x00\x00")},
	}
}

type pair struct {
	what  string
	pack  api.Pack
	bytes string
}

func everyOp(from, n int) []api.Ins {
	var all []api.Ins
	for i := range n {
		all = append(all, api.Ins{Op: from + i})
	}
	return all
}

func everyOpBytes(from, n int) string {
	all := ""
	for i := range n {
		all += string([]byte{byte(from + i), 0, 0})
	}
	return all
}

func documentPack() api.Pack {
	return api.Pack{
		Strings: []string{`<p title="`, `">`, `</p>`, `one`},
		Phrases: []api.Phrase{{Name: "p", Args: []int{api.Text, api.Number}, Code: []api.Ins{
			{Op: api.Lit}, {Op: api.Arg}, {Op: api.Emit}, {Op: api.Lit, A: 1}, {Op: api.Arg, A: 1}, {Op: api.Emit}, {Op: api.Lit, A: 2}, {Op: api.End},
		}}},
	}
}

var (
	add  = api.Ins{Op: api.Add}
	emit = api.Ins{Op: api.Emit}
	end  = api.Ins{Op: api.End}
)

func lit(a int) api.Ins     { return api.Ins{Op: api.Lit, A: a} }
func arg(a int) api.Ins     { return api.Ins{Op: api.Arg, A: a} }
func number(a int) api.Ins  { return api.Ins{Op: api.Const, A: a} }
func same(a, b int) api.Ins { return api.Ins{Op: api.Same, A: a, B: b} }
func less(b int) api.Ins    { return api.Ins{Op: api.Less, B: b} }
func jump(b int) api.Ins    { return api.Ins{Op: api.Jump, B: b} }

// list makes a phrase's code readable in a table.
func list(c ...api.Ins) []api.Ins { return c }

// The strings of the phrases under test, by what they do to the page.
const (
	toValue   = iota // text to value
	fromValue        // value to text
	endTag           // text to text
	one              // text to text
	toOpening        // text to opening
	letter           // opening to tag, and where a letter may stand
	slash            // opening to closing
	blank            // tag, behind to between
	equals           // name to equals
	quote            // equals to value, value to behind
	empty            // to where one was
	halfWrong        // its last byte has no way on
	greater          // to text
	howMany          // strings there are
)

func strs() []string {
	return []string{`<p title="`, `">`, `</p>`, `one`, `<`, `a`, `/`, ` `, `=`, `"`, ``, `one<p><<`, `>`}
}

// kinds of the arguments of the phrases under test.
func kinds() []int { return []int{api.Text, api.Number, api.Text} }

// phrases is a pack of several, named by letters.
func phrases(codes ...[]api.Ins) api.Pack {
	p := api.Pack{Strings: strs()}
	for i, c := range codes {
		p.Phrases = append(p.Phrases, api.Phrase{Name: letters(len(codes))[i], Args: kinds(), Code: c})
	}
	return p
}
