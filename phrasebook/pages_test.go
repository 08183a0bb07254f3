package phrasebook_test

import (
	"fmt"
	"math"
	"math/rand/v2"
	"slices"
	"strconv"
	"strings"
	"testing"

	"phrasebook/api"
)

// runSecond runs a phrase in another way than the program does: with a list that grows and shrinks,
// a page that is joined at the end, and sums without a sign. It tells what each Same answered, too.
func runSecond(p api.Pack, n int, args []api.Value) (string, []bool) {
	var stack []api.Value
	var page []string
	var answers []bool
	take := func() api.Value {
		v := stack[len(stack)-1]
		stack = stack[:len(stack)-1]
		return v
	}
	f := p.Phrases[n]
	for i := 0; ; i++ {
		c := f.Code[i]
		goesOn := true
		switch c.Op {
		case api.Lit:
			page = append(page, p.Strings[c.A])
		case api.Arg:
			stack = append(stack, args[c.A])
		case api.Const:
			stack = append(stack, numberOf(c.A))
		case api.Add:
			stack = append(stack, numberOf(int(uint64(take().Number)+uint64(take().Number))))
		case api.Emit:
			page = append(page, asHTML(take()))
		case api.Same:
			goesOn = take().Text == p.Strings[c.A]
			answers = append(answers, goesOn)
		case api.Less:
			second := take()
			goesOn = take().Number < second.Number
		case api.Jump:
			goesOn = false
		case api.End:
			return strings.Join(page, ""), answers
		}
		if !goesOn {
			i = c.B - 1
		}
	}
}

func asHTML(v api.Value) string {
	if v.Kind == api.Number {
		return strconv.FormatInt(int64(v.Number), 10)
	}
	return strings.NewReplacer("&", "&amp;", "<", "&lt;", ">", "&gt;", `"`, "&quot;", "'", "&#39;").Replace(v.Text)
}

// bones are what is left of a page without what stands in its texts and values: its tags and names,
// in their order. They end with the place at which the page ends ("" if a byte has no way on).
func bones(page string) string {
	var left strings.Builder
	place := "text"
	for i := range len(page) {
		from := place
		place = walk(place, page[i:i+1])
		if from != place || from != "text" && from != "value" {
			left.WriteByte(page[i])
		}
		if place == "" {
			break
		}
	}
	return left.String() + " ends at " + place
}

// sharp counts the bytes that an argument may not bring into a page.
func sharp(page string) [4]int {
	var n [4]int
	for i, b := range []string{"<", ">", `"`, "'"} {
		n[i] = strings.Count(page, b)
	}
	return n
}

func mostBytes(k api.Bound, args []api.Value) int {
	n := k.Bytes
	for i, v := range args {
		n += k.Times[i] * len(v.Text)
	}
	return n
}

func TestBones(t *testing.T) {
	for page, want := range map[string]string{
		"":                        " ends at text",
		"some > text":             " ends at text",
		`a<p title="b">c</p>d`:    `<p title=""></p> ends at text`,
		`<b a="" c="x<">`:         `<b a="" c="< ends at `,
		`<p title="`:              `<p title=" ends at value`,
		`<p title="">"><b></b>>"`: `<p title=""><b></b> ends at text`,
	} {
		if got := bones(page); got != want {
			t.Errorf("bones of %s = %s, want %s", page, got, want)
		}
	}
}

// Texts that would leave their place, if they were put out as they are.
func wild() []string {
	return []string{"", "x", "one", "ones", "two words", "<", ">", `"`, "'", "&", "<p>", "</p>", "</", `">`, `" onclick="x`, "'>", "<p title=\"", "=", "/", " ", "&lt;", "<script>alert(1)</script>", "\x00\xff", "-->", strings.Repeat("<", 20), strings.Repeat(`"`, 30)}
}

func TestP10DocumentsExample(t *testing.T) {
	b := loaded(t, documentPack())
	k, _ := b.Bound("p")
	for _, s := range wild() {
		for _, n := range []int{0, -7, math.MaxInt, math.MinInt} {
			args := row(textOf(s), numberOf(n))
			page, e := b.Format("p", args)
			if e != api.OK || bones(page) != `<p title=""></p> ends at text` {
				t.Errorf("of %q and %d: %q, %d", s, n, page, e)
			}
			if sharp(page) != [4]int{2, 2, 2, 0} {
				t.Errorf("of %q and %d: %q", s, n, page)
			}
			if len(page) > mostBytes(k, args) {
				t.Errorf("of %q and %d: %d bytes, the bound is %v", s, n, len(page), k)
			}
		}
	}
}

// The most that can come out is just what the bound says, where no ways part.
func TestP10BoundIsReached(t *testing.T) {
	b := loaded(t, documentPack())
	k, _ := b.Bound("p")
	args := row(textOf(strings.Repeat(`"`, 327)), numberOf(math.MinInt))
	if page, e := b.Format("p", args); len(page) != mostBytes(k, args) || e != api.OK {
		t.Errorf("Format = %d bytes, %d, want %d", len(page), e, mostBytes(k, args))
	}
}

// A Same that answers otherwise leads to another page; the arguments alone do not.
func TestP10WaysApart(t *testing.T) {
	b := loaded(t, phrases(list(arg(0), same(one, 6), lit(toValue), arg(2), emit, lit(fromValue), arg(2), emit, lit(endTag), end)))
	for _, s := range wild() {
		for _, last := range wild() {
			page, _ := b.Format("a", threeOf(s, 1, last))
			want := "</p> ends at text"
			if s == "one" {
				want = `<p title=""></p> ends at text`
			}
			if bones(page) != want {
				t.Errorf("of %q and %q: %q", s, last, page)
			}
		}
	}
}

func (m maker) row(n int) []api.Value {
	all := wild()
	pick := func() string {
		switch m.IntN(9) {
		case 0, 1, 2:
			return "one"
		case 3:
			return strings.Repeat("<", m.IntN(400))
		}
		return all[m.IntN(len(all))]
	}
	return threeOf(pick(), n, pick())
}

func (m maker) number() int {
	return []int{0, 1, 4, 5, 8, -1, 299, m.IntN(10), math.MaxInt, math.MaxInt - 100, math.MinInt, m.Int()}[m.IntN(12)]
}

// What made-up phrases put out is held against the second way to run them, and against P10.
func TestP10MadeUpPhrases(t *testing.T) {
	m := maker{Rand: rand.New(rand.NewPCG(3, 4))}
	ran, paired, parted, large := 0, 0, 0, 0
	for range 3000 {
		p := phrases(m.phrase())
		b, e, _ := loadPack(t, p)
		if e != api.OK {
			continue
		}
		k, _ := b.Bound("a")
		n := m.number()
		var pages []string
		var answers [][]bool
		for range 12 {
			args := m.row(n)
			page, e := b.Format("a", args)
			if mostBytes(k, args) > api.MaxOutput {
				large++
				if e != api.ErrLarge || page != "" {
					t.Errorf("%v of %v: %q, %d, want ErrLarge", p.Phrases, args, page, e)
				}
				continue
			}
			want, met := runSecond(p, 0, args)
			if page != want || e != api.OK {
				t.Errorf("%v of %v: %q, %d, want %q", p.Phrases, args, page, e, want)
			}
			if len(page) > mostBytes(k, args) || !strings.HasSuffix(bones(page), " ends at text") {
				t.Errorf("%v of %v: %q, which is no page, or above %v", p.Phrases, args, page, k)
			}
			ran++
			for i, other := range pages {
				if !slices.Equal(answers[i], met) {
					parted++
					continue
				}
				paired++
				if bones(page) != bones(other) || sharp(page) != sharp(other) {
					t.Errorf("%v: of rows alike %q and %q", p.Phrases, other, page)
				}
			}
			pages, answers = append(pages, page), append(answers, met)
		}
	}
	told := fmt.Sprintf("%d ran, %d too large, %d pairs alike, %d not", ran, large, paired, parted)
	if ran < 5000 || paired < 20000 || parted < 5000 || large < 50 {
		t.Errorf("%s: they try too little", told)
	}
	t.Log(told)
}
