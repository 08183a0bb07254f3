// Package page: the places in a page of HTML, and where a byte leads from each.
package page

// Place is where one is in a page.
type Place int

const (
	Text Place = iota
	Opening
	Closing
	EndTag
	Tag
	Between
	Name
	Equals
	Value
	Behind
)

// way: each byte from low to high leads from one place to another.
type way struct {
	from      Place
	low, high byte
	to        Place
}

// No byte has two ways from one place, so their order says nothing.
var ways = [...]way{
	{Text, 0, '<' - 1, Text},
	{Text, '<', '<', Opening},
	{Text, '<' + 1, 255, Text},
	{Opening, 'a', 'z', Tag},
	{Opening, '/', '/', Closing},
	{Closing, 'a', 'z', EndTag},
	{EndTag, 'a', 'z', EndTag},
	{EndTag, '0', '9', EndTag},
	{EndTag, '>', '>', Text},
	{Tag, 'a', 'z', Tag},
	{Tag, '0', '9', Tag},
	{Tag, ' ', ' ', Between},
	{Tag, '>', '>', Text},
	{Between, ' ', ' ', Between},
	{Between, 'a', 'z', Name},
	{Between, '>', '>', Text},
	{Name, 'a', 'z', Name},
	{Name, '-', '-', Name},
	{Name, '=', '=', Equals},
	{Equals, '"', '"', Value},
	{Value, 0, '"' - 1, Value},
	{Value, '"', '"', Behind},
	{Value, '"' + 1, '<' - 1, Value},
	{Value, '<' + 1, 255, Value},
	{Behind, ' ', ' ', Between},
	{Behind, '>', '>', Text},
}

// After tells where one is when a text has been put out, and whether each of its bytes had a way on.
func (p Place) After(text string) (Place, bool) {
	for i := range len(text) {
		next, ok := p.next(text[i])
		if !ok {
			return p, false
		}
		p = next
	}
	return p, true
}

func (p Place) next(b byte) (Place, bool) {
	for _, w := range ways {
		if w.from == p && w.low <= b && b <= w.high {
			return w.to, true
		}
	}
	return p, false
}

// TakesValues tells whether a value may be put out here: what it is made of as HTML has a way on,
// and leads back to the place itself.
func (p Place) TakesValues() bool {
	return p == Text || p == Value
}
