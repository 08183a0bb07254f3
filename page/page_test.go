package page

import (
	"strings"
	"testing"
)

// places are the document's words for them.
var places = map[string]Place{
	"text": Text, "opening": Opening, "closing": Closing, "end tag": EndTag, "tag": Tag,
	"between": Between, "name": Name, "equals": Equals, "value": Value, "behind": Behind,
}

const small, digits = "abcdefghijklmnopqrstuvwxyz", "0123456789"

// table is the document's, row by row; what it has no row for has no way on.
var table = []struct{ from, bytes, to string }{
	{"text", "<", "opening"},
	{"text", allBut("<"), "text"},
	{"opening", small, "tag"},
	{"opening", "/", "closing"},
	{"closing", small, "end tag"},
	{"end tag", small + digits, "end tag"},
	{"end tag", ">", "text"},
	{"tag", small + digits, "tag"},
	{"tag", " ", "between"},
	{"tag", ">", "text"},
	{"between", " ", "between"},
	{"between", small, "name"},
	{"between", ">", "text"},
	{"name", small + "-", "name"},
	{"name", "=", "equals"},
	{"equals", "\"", "value"},
	{"value", "\"", "behind"},
	{"value", allBut("\"<"), "value"},
	{"behind", " ", "between"},
	{"behind", ">", "text"},
}

func allBut(some string) string {
	var all []byte
	for b := range 256 {
		if strings.IndexByte(some, byte(b)) < 0 {
			all = append(all, byte(b))
		}
	}
	return string(all)
}

// leads asks the document's table; it answers "" if there is no way on.
func leads(from string, b byte) string {
	for _, r := range table {
		if r.from == from && strings.IndexByte(r.bytes, b) >= 0 {
			return r.to
		}
	}
	return ""
}

func TestEachByteAtEachPlace(t *testing.T) {
	for word, from := range places {
		for b := range 256 {
			want := leads(word, byte(b))
			to, ok := from.After(string([]byte{byte(b)}))
			if ok != (want != "") || ok && to != places[want] {
				t.Errorf("from %s by %q: %d, %t, want %q", word, byte(b), to, ok, want)
			}
		}
	}
}

func TestNoByteHasTwoWays(t *testing.T) {
	for i, w := range ways {
		for _, v := range ways[:i] {
			if w.from == v.from && w.low <= v.high && v.low <= w.high {
				t.Errorf("%v and %v are for the same bytes", v, w)
			}
		}
	}
}

func TestTexts(t *testing.T) {
	for _, c := range []struct {
		from, text, to string
	}{
		{"text", "", "text"}, {"value", "", "value"}, {"opening", "", "opening"}, {"equals", "", "equals"},
		{"text", "<p title=\"", "value"}, {"value", "\">", "text"}, {"text", "\">", "text"},
		{"text", "</p>", "text"}, {"text", "one > two & 'three'\n\x00\xff", "text"},
		{"text", "<h1  class=\"a>b\" data-x=\"'\">x</h1><br>", "text"},
		{"text", "<p ><", "opening"}, {"text", "</h1", "end tag"}, {"text", "</", "closing"}, {"text", "<a1 b", "name"},
		{"text", "<a b=", "equals"}, {"text", "<a b=\"\"", "behind"}, {"text", "<a b=\"\" ", "between"},
		{"text", "<P>", ""}, {"text", "<1>", ""}, {"text", "< p>", ""}, {"text", "<>", ""}, {"text", "<!-- -->", ""}, {"text", "<é>", ""},
		{"text", "</>", ""}, {"text", "</1>", ""}, {"text", "</p >", ""}, {"text", "</pP>", ""}, {"text", "</p", "end tag"},
		{"text", "<p/>", ""}, {"text", "<p\tx=\"\">", ""}, {"text", "<p-a>", ""}, {"text", "<p 1=\"\">", ""}, {"text", "<p x1=\"\">", ""},
		{"text", "<p x>", ""}, {"text", "<p x =\"\">", ""}, {"text", "<p x='a'>", ""}, {"text", "<p x=a>", ""}, {"text", "<p x= \"\">", ""},
		{"text", "<p x=\"<\">", ""}, {"text", "<p x=\"\"y=\"\">", ""}, {"text", "<p x=\"\"\">", ""}, {"text", "<p -x=\"\">", ""},
		{"opening", "<", ""}, {"text", "one<<", ""},
	} {
		to, ok := places[c.from].After(c.text)
		if ok != (c.to != "") || ok && to != places[c.to] {
			t.Errorf("from %s by %q: %d, %t, want %q", c.from, c.text, to, ok, c.to)
		}
	}
}

func TestTakesValues(t *testing.T) {
	for word, p := range places {
		if p.TakesValues() != (word == "text" || word == "value") {
			t.Errorf("%s: TakesValues = %t", word, p.TakesValues())
		}
	}
}

// What a value is made of as HTML: no byte of it leads away from a place that takes values.
func TestValuesStay(t *testing.T) {
	for word, p := range places {
		if !p.TakesValues() {
			continue
		}
		if to, ok := p.After(allBut("<>\"'")); !ok || to != p {
			t.Errorf("%s: a value leads to %d, %t", word, to, ok)
		}
	}
}
