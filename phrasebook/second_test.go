package phrasebook_test

import (
	"fmt"
	"math/rand/v2"
	"strings"
	"testing"

	"phrasebook/api"
)

// second looks a phrase over in another way than the program does: it follows each way from the
// first instruction on by itself, notes all it is reached with, and reckons the bound backward, by
// asking each instruction for those that go on at it.
type second struct {
	strings []string
	kinds   []int
	code    []api.Ins
	seen    []map[string]bool // of each instruction: the stacks and places it is reached with
	alone   []int             // of each instruction: why it may not be, but for BadMeeting
	from    []map[int]bool    // of each instruction: those that are reached and go on at it
	depth   []int             // of each instruction: how many values are on the stack ahead of it
}

func lookSecond(p api.Pack, n int) (api.Bound, api.Fault) {
	f := p.Phrases[n]
	x := &second{strings: p.Strings, kinds: f.Args, code: f.Code, depth: make([]int, len(f.Code)), alone: make([]int, len(f.Code))}
	for range f.Code {
		x.seen = append(x.seen, map[string]bool{})
		x.from = append(x.from, map[int]bool{})
	}
	x.follow(-1, 0, "", "text")
	for i := range f.Code {
		why := x.illMade(i)
		if why == 0 && len(x.seen[i]) > 1 {
			why = api.BadMeeting
		}
		if why == 0 {
			why = x.alone[i]
		}
		if why != 0 {
			return api.Bound{}, api.Fault{Phrase: n, At: i, Why: why}
		}
	}
	var most api.Bound
	for i, c := range f.Code {
		if c.Op == api.End && len(x.seen[i]) > 0 {
			most = mostOf(most, x.ahead(i))
		}
	}
	return most, api.Fault{}
}

func (x *second) illMade(i int) int {
	c, n := x.code[i], len(x.code)
	mostA, leastB, mostB := 0, 0, 0
	switch c.Op {
	case api.Lit:
		mostA = len(x.strings) - 1
	case api.Arg:
		mostA = len(x.kinds) - 1
	case api.Const:
		mostA = most
	case api.Same:
		mostA, leastB, mostB = len(x.strings)-1, i+1, n-1
	case api.Less, api.Jump:
		leastB, mostB = i+1, n-1
	case api.Add, api.Emit, api.End:
	default:
		return api.BadOp
	}
	if c.A > mostA || c.B < leastB || c.B > mostB {
		return api.BadNumber
	}
	return 0
}

// follow goes one way on, with the stack as letters, T and N, the top at the right.
func (x *second) follow(from, i int, stack, place string) {
	if from >= 0 {
		x.from[i][from] = true
	}
	with := stack + " " + place
	if x.seen[i][with] || x.illMade(i) != 0 {
		return
	}
	x.seen[i][with] = true
	x.depth[i] = len(stack)
	c := x.code[i]
	takes := map[int][]string{api.Add: {"NN"}, api.Less: {"NN"}, api.Same: {"T"}, api.Emit: {"T", "N"}}[c.Op]
	left, enough := stack, takes == nil
	for _, s := range takes {
		if strings.HasSuffix(stack, s) {
			left, enough = strings.TrimSuffix(stack, s), true
		}
	}
	switch c.Op {
	case api.Arg:
		left += string("TN"[x.kinds[c.A]])
	case api.Const, api.Add:
		left += "N"
	}
	after := place
	if c.Op == api.Lit {
		after = walk(place, x.strings[c.A])
	}
	if c.Op == api.Emit && place != "text" && place != "value" {
		after = ""
	}
	switch {
	case !enough || len(left) > 4 || c.Op == api.End && stack != "":
		x.alone[i] = api.BadStack
	case after == "":
		x.alone[i] = api.BadPlace
	case c.Op == api.End && place != "text" || c.Op != api.End && c.Op != api.Jump && i+1 == len(x.code):
		x.alone[i] = api.BadEnd
	}
	if x.alone[i] != 0 || c.Op == api.End {
		return
	}
	if c.Op == api.Same || c.Op == api.Less || c.Op == api.Jump {
		x.follow(i, c.B, left, after)
	}
	if c.Op != api.Jump {
		x.follow(i, i+1, left, after)
	}
}

// walk leads a text through the page; it answers "" if a byte has no way on.
func walk(place, s string) string {
	for _, b := range []byte(s) {
		small, digit := b >= 'a' && b <= 'z', b >= '0' && b <= '9'
		switch {
		case place == "text" && b != '<', place == "value" && b != '<' && b != '"':
		case place == "text":
			place = "opening"
		case place == "value" && b == '"':
			place = "behind"
		case place == "opening" && small:
			place = "tag"
		case place == "opening" && b == '/':
			place = "closing"
		case place == "closing" && small:
			place = "end tag"
		case (place == "end tag" || place == "tag") && (small || digit):
		case b == '>' && (place == "end tag" || place == "tag" || place == "between" || place == "behind"):
			place = "text"
		case b == ' ' && (place == "tag" || place == "between" || place == "behind"):
			place = "between"
		case place == "between" && small:
			place = "name"
		case place == "name" && (small || b == '-'):
		case place == "name" && b == '=':
			place = "equals"
		case place == "equals" && b == '"':
			place = "value"
		default:
			return ""
		}
	}
	return place
}

func mostOf(a, b api.Bound) api.Bound {
	out := api.Bound{Bytes: max(a.Bytes, b.Bytes)}
	for i := range out.Times {
		out.Times[i] = max(a.Times[i], b.Times[i])
	}
	return out
}

func (x *second) ahead(i int) api.Bound {
	var most api.Bound
	for j := range x.from[i] {
		most = mostOf(most, x.behind(j))
	}
	return most
}

func (x *second) behind(i int) api.Bound {
	k := x.ahead(i)
	switch c := x.code[i]; c.Op {
	case api.Lit:
		k.Bytes += len(x.strings[c.A])
	case api.Emit:
		args := map[int]bool{}
		x.laid(i, x.depth[i]-1, args)
		if len(args) == 0 {
			k.Bytes += 20
		}
		for a := range args {
			k.Times[a] += 6
		}
	}
	return k
}

// laid collects the arguments whose text can be at a height of the stack ahead of an instruction:
// it goes back to those that laid it there.
func (x *second) laid(i, height int, args map[int]bool) {
	for j := range x.from[i] {
		switch c := x.code[j]; {
		case height < x.depth[j] && !(c.Op == api.Add && height == x.depth[j]-2):
			x.laid(j, height, args)
		case c.Op == api.Arg && x.kinds[c.A] == api.Text:
			args[c.A] = true
		}
	}
}

// maker makes phrases up: pieces that are sound, of which some are then changed.
type maker struct {
	*rand.Rand
}

func (m maker) piece(c []api.Ins, deep int) []api.Ins {
	switch n := m.IntN(10); {
	case n < 2:
		c = append(c, lit([]int{one, endTag, empty, fromValue}[m.IntN(4)]))
	case n < 3:
		c = append(c, lit(toValue), arg(m.IntN(3)), emit, lit(fromValue))
	case n < 5:
		c = append(c, arg(m.IntN(3)), emit)
	case n < 6:
		c = append(c, number(m.IntN(300)), arg(1), add, arg(m.IntN(3)), emit, emit)
	case deep > 0 && len(c) < 30:
		c = m.fork(c, deep-1)
	}
	return c
}

// fork makes two ways that meet; each lays a value, of one kind, that is put out behind the meeting.
func (m maker) fork(c []api.Ins, deep int) []api.Ins {
	kind := m.IntN(2)
	if m.IntN(2) == 0 {
		c = append(c, arg(2*m.IntN(2)), same(one, 0))
	} else {
		c = append(c, arg(1), number(m.IntN(9)), less(0))
	}
	branch := len(c) - 1
	c = append(m.piece(c, deep), m.value(kind), jump(0))
	c[branch].B = len(c)
	away := len(c) - 1
	c = append(m.piece(c, deep), m.value(kind))
	c[away].B = len(c)
	return append(m.piece(c, deep), emit)
}

func (m maker) value(kind int) api.Ins {
	if kind == api.Number {
		return []api.Ins{arg(1), number(7)}[m.IntN(2)]
	}
	return arg(2 * m.IntN(2))
}

func (m maker) phrase() []api.Ins {
	var c []api.Ins
	for range m.IntN(5) {
		c = m.piece(c, 2)
	}
	c = append(c, end)
	for range m.IntN(3) {
		m.change(c)
	}
	return c[:min(len(c), api.MaxCode)]
}

func (m maker) change(c []api.Ins) {
	i := m.IntN(len(c))
	switch m.IntN(8) {
	case 0:
		c[i] = api.Ins{Op: m.IntN(10)}
	case 1:
		c[i].A = m.IntN(howMany + 1)
	case 2:
		c[i].B = m.IntN(len(c) + 1)
	case 3:
		c[i] = lit(m.IntN(howMany))
	case 4:
		c[i] = []api.Ins{arg(0), arg(1), number(1), add, emit, end}[m.IntN(6)]
	case 5, 6:
		c[i] = jump(i + 1 + m.IntN(len(c)-i))
	case 7:
		c[i] = same(one, i+1+m.IntN(len(c)-i))
	}
}

func TestSecondLook(t *testing.T) {
	m := maker{Rand: rand.New(rand.NewPCG(1, 2))}
	met := map[int]int{}
	for range 4000 {
		p := phrases(m.phrase(), m.phrase())
		var bounds []api.Bound
		var want api.Fault
		for i := range p.Phrases {
			k, f := lookSecond(p, i)
			bounds = append(bounds, k)
			if want.Why == 0 {
				want = f
			}
		}
		met[want.Why]++
		wantFault(t, fmt.Sprint(p.Phrases), p, want)
		if want.Why != 0 {
			continue
		}
		b := loaded(t, p)
		for i, f := range p.Phrases {
			wantBound(t, fmt.Sprint(f), b, f.Name, bounds[i])
		}
	}
	for why := range api.BadEnd + 1 {
		if met[why] < 50 {
			t.Errorf("of the phrases only %d were at fault for %d: they try too little", met[why], why)
		}
	}
	t.Log(met)
}
