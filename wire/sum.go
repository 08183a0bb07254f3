package wire

// head is what the bytes of every pack begin with.
const head = "PB\x01"

// sumBytes: how many bytes the sum takes.
const sumBytes = 2

// sum makes the two bytes that stand behind some bytes, the low one first.
func sum(b string) string {
	s := 1
	for i := range len(b) {
		s = (s*263 + int(b[i]) + 1) % 65521
	}
	return string([]byte{byte(s), byte(s >> 8)})
}
