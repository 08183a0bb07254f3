package wire

import (
	"errors"
	"testing"

	"phrasebook/api"
)

// caught tells what Read gave up with.
func caught(b string) (what any) {
	defer func() { what = recover() }()
	Read(b)
	return nil
}

// Read gives up by panic, with an error of its own: it never runs over the end of the bytes by mistake.
func TestReadGivesUp(t *testing.T) {
	good := Write(api.Pack{Strings: []string{"s"}, Phrases: []api.Phrase{{Name: "p", Args: []int{0, 1}, Code: []api.Ins{{Op: 1, A: 300, B: mostNumber}}}}})
	if what := caught(good); what != nil {
		t.Fatalf("Read(%x) gave up: %v", good, what)
	}
	body := good[:len(good)-sumBytes]
	wrong := []string{"", "P", good + "\x00", body + "\x00" + sum(body+"\x00")}
	for i := range body {
		wrong = append(wrong, good[:i], body[:i]+sum(body[:i]))
	}
	for _, b := range wrong {
		if e, ok := caught(b).(error); !ok || !errors.Is(e, errNoPack) {
			t.Errorf("Read(%x): caught %v", b, caught(b))
		}
	}
}

func TestSum(t *testing.T) {
	for b, want := range map[string]string{"": "\x01\x00", "P": "\x58\x01", "PB": "\xba\x61", "\xff": "\x07\x02"} {
		if s := sum(b); s != want {
			t.Errorf("sum(%x) = %x, want %x", b, s, want)
		}
	}
}

func TestWithin(t *testing.T) {
	if !Within(api.Pack{}) {
		t.Error("a pack of nothing is not within the limits")
	}
	if Within(api.Pack{Phrases: []api.Phrase{{}}}) {
		t.Error("a phrase of nothing is within the limits")
	}
}

// numberOf reads one number that has all the bytes; -1: it gave up.
func numberOf(b string) (n int) {
	defer func() {
		if recover() != nil {
			n = -1
		}
	}()
	r := &reader{rest: b}
	n = r.number()
	if r.rest != "" {
		return -1
	}
	return n
}

func TestNumber(t *testing.T) {
	for _, n := range []int{0, 1, 127, 128, 16383, 16384, 1<<21 - 1, 1 << 21, 1<<28 - 1, 1 << 28, mostNumber - 1, mostNumber} {
		if b := string(addNumber(nil, n)); numberOf(b) != n {
			t.Errorf("%d is written %x, and that is read %d", n, b, numberOf(b))
		}
	}
	for _, b := range []string{"", "\x80", "\x80\x00", "\xff\x80\x00", "\xff\xff\xff\xff\x08", "\x80\x80\x80\x80\x08", "\xff\xff\xff\xff\x7f", "\x80\x80\x80\x80\x80\x01", "\x80\x80\x80\x80\x80\x80\x80\x80\x80\x80\x01"} {
		if n := numberOf(b); n != -1 {
			t.Errorf("%x is read %d", b, n)
		}
	}
}
