package utf

// advance returns the next byte and moves past it; zero and false at the end, where it stays.
type advance func() (byte, bool)

// cursor is a place in a string. Its method value next is the advance with which all readers here traverse the bytes.
type cursor struct {
	s  string
	at int
}

func (c *cursor) next() (byte, bool) {
	if c.at >= len(c.s) {
		return 0, false
	}
	b := c.s[c.at]
	c.at++
	return b, true
}
