package run

import (
	"strconv"
	"strings"

	"phrasebook/api"
)

// putOut puts a value out as HTML. A number has no byte that a page could take for its own.
func putOut(out *strings.Builder, v api.Value) {
	if v.Kind == api.Number {
		out.WriteString(strconv.Itoa(v.Number))
		return
	}
	for i := range len(v.Text) {
		putByte(out, v.Text[i])
	}
}

func putByte(out *strings.Builder, b byte) {
	switch b {
	case '&':
		out.WriteString("&amp;")
	case '<':
		out.WriteString("&lt;")
	case '>':
		out.WriteString("&gt;")
	case '"':
		out.WriteString("&quot;")
	case '\'':
		out.WriteString("&#39;")
	default:
		out.WriteByte(b)
	}
}
