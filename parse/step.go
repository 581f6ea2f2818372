package parse

import (
	"strings"

	"introit/api"
	"introit/utf"
	"introit/value"
)

// step reads a value whose first byte is the next one. Each step is a method value of the parser.
type step func() (api.Value, api.Errno)

// value reads the value that is next.
func (p *parser) value() (api.Value, api.Errno) {
	read := p.stepFor(p.peek())
	return read()
}

// stepFor returns the step that reads what begins with the byte b.
func (p *parser) stepFor(b byte) step {
	switch {
	case b == '[':
		return p.list
	case b == '{':
		return p.table
	case b == '"':
		return p.text
	case b == '-' || isDigit(b):
		return p.number
	}
	return p.word
}

func (p *parser) text() (api.Value, api.Errno) {
	s, e := p.literal()
	if e != api.OK {
		return api.Value{}, e
	}
	return value.Text(s), api.OK
}

// literal reads a string literal, which may be a Text or a key.
func (p *parser) literal() (string, api.Errno) {
	s, n, e := utf.Unquote(p.s[p.at:])
	if e != api.OK {
		return "", api.ErrForm
	}
	p.at += n
	return s, api.OK
}

// word reads null, true or false; what else may stand here is no value.
func (p *parser) word() (api.Value, api.Errno) {
	for _, w := range []struct {
		text string
		v    api.Value
	}{{"null", api.Value{}}, {"true", value.Bool(true)}, {"false", value.Bool(false)}} {
		if strings.HasPrefix(p.s[p.at:], w.text) {
			p.at += len(w.text)
			return w.v, api.OK
		}
	}
	return api.Value{}, api.ErrForm
}
