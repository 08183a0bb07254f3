package phrasebook_test

import (
	"math/rand"
	"strings"
	"testing"

	"phrasebook/api"
	"phrasebook/phrasebook"
)

func TestP4Packs(t *testing.T) {
	for _, c := range pairs() {
		if p, e := phrasebook.Decode(c.bytes); text(p) != text(c.pack) || e != api.OK {
			t.Errorf("%s: Decode(%x) = %s, %d, want %s", c.what, c.bytes, text(p), e, text(c.pack))
		}
	}
}

// refused tells whether there is the error, and nothing with it.
func refused(p api.Pack, e, want api.Errno) bool {
	return p.Strings == nil && p.Phrases == nil && e == want
}

func mustRefuse(t *testing.T, what, b string) {
	t.Helper()
	if p, e := phrasebook.Decode(b); !refused(p, e, api.ErrBytes) {
		t.Errorf("%s: Decode(%x) = %s, %d", what, b, text(p), e)
	}
}

func TestP4MostBytes(t *testing.T) {
	want, b := sized(4000)
	if p, e := phrasebook.Decode(b); text(p) != text(want) || e != api.OK {
		t.Errorf("Decode of 4,000 bytes = %d", e)
	}
	_, above := sized(4001)
	for _, b := range []string{above, strings.Repeat("P", 4001), b + "\x00", strings.Repeat("\x00", 1<<24)} {
		if p, e := phrasebook.Decode(b); !refused(p, e, api.ErrLimit) {
			t.Errorf("Decode of %d bytes = %s, %d", len(b), text(p), e)
		}
	}
	mustRefuse(t, "4,000 other bytes", strings.Repeat("P", 4000))
}

func TestP4WrongBytes(t *testing.T) {
	phrase := "\x01p\x00\x01\x00\x00\x00"
	for what, b := range map[string]string{
		"none":                       "",
		"one":                        "P",
		"two":                        "PB",
		"the sum of nothing":         seal(""),
		"a head cut short":           seal("PB"),
		"a head alone":               packed(""),
		"no phrases told":            packed("\x00"),
		"another first letter":       seal("QB\x01\x00\x00"),
		"another second letter":      seal("PC\x01\x00\x00"),
		"letters the other way":      seal("BP\x01\x00\x00"),
		"another third byte":         seal("PB\x02\x00\x00"),
		"third byte 0":               seal("PB\x00\x00\x00"),
		"no head":                    seal("\x00\x00"),
		"no sum":                     "PB\x01\x00\x00",
		"half a sum":                 "PB\x01\x00\x00\x26",
		"the sum's bytes swapped":    "PB\x01\x00\x00\xb0\x26",
		"a sum one above":            "PB\x01\x00\x00\x27\xb0",
		"the sum twice":              "PB\x01\x00\x00\x26\xb0\x26\xb0",
		"a byte too many, no sum":    packed("\x00\x00") + "\x00",
		"a byte too many, in a sum":  packed("\x00\x00\x00"),
		"a phrase too many":          packed("\x00\x00" + phrase),
		"a phrase too few":           packed("\x00\x02" + phrase),
		"a string too few":           packed("\x02\x01a"),
		"a string cut short":         packed("\x01\x02a"),
		"a string longer than all":   packed("\x01\xff\xff\xff\xff\x07a\x00"),
		"strings more than all":      packed("\xff\xff\xff\xff\x07\x00"),
		"phrases more than all":      packed("\x00\xff\xff\xff\xff\x07" + phrase),
		"arguments more than all":    packed("\x00\x01\x01p\xff\xff\xff\xff\x07\x00\x01\x00\x00\x00"),
		"instructions more than all": packed("\x00\x01\x01p\x00\xff\xff\xff\xff\x07\x00\x00\x00"),
		"an instruction cut short":   packed("\x00\x01\x01p\x00\x01\x00\x00"),
		"a number without its end":   packed("\x00\x01\x01p\x00\x01\x00\x00\x80"),
		"a name cut short":           packed("\x00\x01\x02p"),
		"arguments cut short":        packed("\x00\x01\x01p\x02\x00"),
	} {
		mustRefuse(t, what, b)
	}
}

// What Encode refuses is refused as bytes too, where bytes can say it.
func TestP4Limits(t *testing.T) {
	for what, body := range map[string]string{
		"41 strings":          "\x29" + strings.Repeat("\x00", 41) + "\x00",
		"61 bytes":            "\x01\x3d" + strings.Repeat("s", 61) + "\x00",
		"13 phrases":          "\x00\x0d" + thirteen(),
		"no name":             "\x00\x01\x00\x00\x01\x00\x00\x00",
		"a name of 13":        "\x00\x01\x0d" + strings.Repeat("n", 13) + "\x00\x01\x00\x00\x00",
		"a name twice":        "\x00\x02\x01p\x00\x01\x00\x00\x00\x01p\x01\x00\x01\x08\x00\x00",
		"a name twice, apart": "\x00\x03\x01p\x00\x01\x00\x00\x00\x01q\x00\x01\x00\x00\x00\x01p\x00\x01\x00\x00\x00",
		"7 arguments":         "\x00\x01\x01p\x07\x00\x00\x00\x00\x00\x00\x00\x01\x00\x00\x00",
		"kind 2":              "\x00\x01\x01p\x01\x02\x01\x00\x00\x00",
		"kind 255":            "\x00\x01\x01p\x01\xff\x01\x00\x00\x00",
		"no instructions":     "\x00\x01\x01p\x00\x00",
		"61 instructions":     "\x00\x01\x01p\x00\x3d" + strings.Repeat("\x00\x00\x00", 61),
	} {
		mustRefuse(t, what, packed(body))
	}
}

func thirteen() string {
	all := ""
	for _, n := range letters(13) {
		all += "\x01" + n + "\x00\x01\x00\x00\x00"
	}
	return all
}

func TestP4Numbers(t *testing.T) {
	for u, want := range map[string]int{
		"\x00": 0, "\x01": 1, "\x7f": 127, "\x80\x01": 128, "\x81\x01": 129, "\xff\x7f": 16383, "\x80\x80\x01": 16384, "\x80\x80\x80\x01": 1 << 21, "\x80\x80\x80\x80\x01": 1 << 28, "\xfe\xff\xff\xff\x07": most - 1, "\xff\xff\xff\xff\x07": most,
	} {
		p, e := phrasebook.Decode(packed("\x00\x01\x01p\x00\x01\x08" + u + "\x05"))
		if e != api.OK || p.Phrases[0].Code[0] != (api.Ins{Op: 8, A: want, B: 5}) {
			t.Errorf("A of %x: Decode = %s, %d", u, text(p), e)
		}
		p, e = phrasebook.Decode(packed("\x00\x01\x01p\x00\x01\x08\x05" + u))
		if e != api.OK || p.Phrases[0].Code[0] != (api.Ins{Op: 8, A: 5, B: want}) {
			t.Errorf("B of %x: Decode = %s, %d", u, text(p), e)
		}
	}
}

func wrongNumbers() []string {
	all := []string{"\x80\x00", "\xff\x00", "\xff\x80\x00", "\xff\xff\xff\xff\x00", "\x80\x80\x80\x80\x08", "\xff\xff\xff\xff\x08", "\xff\xff\xff\xff\x0f", "\xff\xff\xff\xff\x17", "\xff\xff\xff\xff\x7f", "\xff\xff\xff\xff\x87\x00"}
	for n := 1; n < 40; n++ { // such as a shift would lose
		zeros := strings.Repeat("\x80", n)
		all = append(all, zeros+"\x00", "\x85"+zeros+"\x00")
		if n >= 5 {
			all = append(all, zeros+"\x01", zeros+"\x02", zeros+"\x40", zeros+"\x7f")
		}
	}
	return all
}

// A number that is none is refused wherever a number stands.
func TestP4WrongNumbers(t *testing.T) {
	for _, u := range wrongNumbers() {
		mustRefuse(t, "A", packed("\x00\x01\x01p\x00\x01\x08"+u+"\x00"))
		mustRefuse(t, "B", packed("\x00\x01\x01p\x00\x01\x08\x00"+u))
		mustRefuse(t, "strings", packed(u+"\x00"))
		mustRefuse(t, "phrases", packed("\x00"+u))
		mustRefuse(t, "a string's length", packed("\x01"+u+"\x00"))
		mustRefuse(t, "arguments", packed("\x00\x01\x01p"+u+"\x01\x08\x00\x00"))
	}
	one := "\x81\x00" // where 1 is the least that may stand
	mustRefuse(t, "a name's length", packed("\x00\x01"+one+"p\x00\x01\x08\x00\x00"))
	mustRefuse(t, "instructions", packed("\x00\x01\x01p\x00"+one+"\x08\x00\x00"))
}

// agree holds Decode against Encode: bytes that are taken are just those of the pack.
func agree(t *testing.T, b string) {
	t.Helper()
	p, e := phrasebook.Decode(b)
	if e == api.OK {
		if again, f := phrasebook.Encode(p); again != b || f != api.OK {
			t.Errorf("Decode(%x) = %s, which has the bytes %x, %d", b, text(p), again, f)
		}
		return
	}
	want := api.ErrBytes
	if len(b) > api.MaxBytes {
		want = api.ErrLimit
	}
	if !refused(p, e, want) {
		t.Errorf("Decode(%x) = %s, %d", b, text(p), e)
	}
}

func TestP4EachByteChanged(t *testing.T) {
	for _, c := range pairs() {
		body := c.bytes[:len(c.bytes)-2]
		for i := range c.bytes {
			mustRefuse(t, c.what+", cut short", c.bytes[:i])
			mustRefuse(t, c.what+", a bit changed", c.bytes[:i]+string([]byte{c.bytes[i] ^ 1})+c.bytes[i+1:])
		}
		for i := range body {
			mustRefuse(t, c.what+", cut short and sealed", seal(body[:i]))
			for v := range 256 {
				agree(t, seal(body[:i]+string([]byte{byte(v)})+body[i+1:]))
			}
			agree(t, seal(body[:i]+body[i+1:]))
			agree(t, seal(body[:i]+"\x80"+body[i:]))
		}
		mustRefuse(t, c.what+", one more", seal(body+"\x00"))
	}
}

func TestP1DecodeOfAnything(t *testing.T) {
	r := rand.New(rand.NewSource(1))
	for range 20000 {
		b := make([]byte, r.Intn(40))
		for i := range b {
			b[i] = byte(r.Intn(1 << (1 + r.Intn(8))))
		}
		agree(t, string(b))
		agree(t, packed(string(b)))
	}
	for _, n := range []int{3999, 4000, 4001, 1 << 20} {
		for _, b := range []string{"\x00", "\x7f", "\x80", "\xff", "\x01"} {
			agree(t, strings.Repeat(b, n))
			agree(t, packed(strings.Repeat(b, n-5)))
		}
	}
}

func FuzzP4(f *testing.F) {
	for _, c := range pairs() {
		f.Add(c.bytes[3 : len(c.bytes)-2])
	}
	f.Fuzz(func(t *testing.T, body string) {
		agree(t, packed(body))
	})
}
