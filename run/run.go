// Package run runs phrases that were found sound.
package run

import (
	"strings"

	"phrasebook/api"
)

// Phrase runs the code of a sound phrase, with values of the kinds it takes, and tells what it puts
// out. It asks nothing that the look over the phrase has answered: that there is each string, each
// argument and each value that is taken, that ways go forward alone, and that each leads to an End.
func Phrase(texts []string, code []api.Ins, args []api.Value) string {
	m := machine{texts: texts, args: args}
	for at := 0; code[at].Op != api.End; {
		at = m.step(at, code[at])
	}
	return m.out.String()
}

// machine: a phrase while it is run.
type machine struct {
	texts []string
	args  []api.Value
	stack [api.MaxStack]api.Value
	depth int // of the stack
	out   strings.Builder
}

// step does what an instruction says, and tells the one at which it goes on.
func (m *machine) step(at int, c api.Ins) int {
	switch c.Op {
	case api.Lit:
		m.out.WriteString(m.texts[c.A])
	case api.Arg:
		m.lay(m.args[c.A])
	case api.Const:
		m.layNumber(c.A)
	case api.Add:
		first, second := m.takeNumbers()
		m.layNumber(first + second)
	case api.Emit:
		putOut(&m.out, m.take())
	case api.Same:
		if m.take().Text != m.texts[c.A] {
			return c.B
		}
	case api.Less:
		if first, second := m.takeNumbers(); first >= second {
			return c.B
		}
	case api.Jump:
		return c.B
	}
	return at + 1
}

func (m *machine) lay(v api.Value) {
	m.stack[m.depth] = v
	m.depth++
}

func (m *machine) layNumber(n int) {
	m.lay(api.Value{Kind: api.Number, Number: n})
}

func (m *machine) take() api.Value {
	m.depth--
	return m.stack[m.depth]
}

// takeNumbers takes the second one first: it was laid last.
func (m *machine) takeNumbers() (first, second int) {
	second = m.take().Number
	first = m.take().Number
	return first, second
}
