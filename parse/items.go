package parse

import (
	"introit/api"
	"introit/value"
)

// list reads a list, its opening bracket being next.
func (p *parser) list() (api.Value, api.Errno) {
	l := elements{p: p}
	if e := p.within(']', l.next); e != api.OK {
		return api.Value{}, e
	}
	return value.List(l.got...), api.OK
}

// table reads a map, its opening bracket being next.
func (p *parser) table() (api.Value, api.Errno) {
	m := members{p: p, keys: map[string]struct{}{}}
	if e := p.within('}', m.next); e != api.OK {
		return api.Value{}, e
	}
	return value.Map(m.got...), api.OK
}

// within passes an opening bracket, and reads items up to the bracket last.
func (p *parser) within(last byte, next func() api.Errno) api.Errno {
	if p.open == api.MaxDepth {
		return api.ErrDepth
	}
	p.at++
	p.open++
	e := p.items(last, next)
	p.open--
	return e
}

// items runs next for each item, and passes the commas between them and the bracket last.
func (p *parser) items(last byte, next func() api.Errno) api.Errno {
	if p.take(last) {
		return api.OK
	}
	for {
		if e := next(); e != api.OK {
			return e
		}
		if p.take(last) {
			return api.OK
		}
		if !p.take(',') {
			return api.ErrForm
		}
	}
}

// elements gathers the values of a list. Its method value next is the step for one of them.
type elements struct {
	p   *parser
	got []api.Value
}

func (l *elements) next() api.Errno {
	v, e := l.p.value()
	if e != api.OK {
		return e
	}
	l.got = append(l.got, v)
	return api.OK
}

// members gathers the members of a map. Its method value next is the step for one of them.
type members struct {
	p    *parser
	got  []api.Member
	keys map[string]struct{}
}

func (m *members) next() api.Errno {
	key, e := m.key()
	if e != api.OK {
		return e
	}
	if !m.p.take(':') {
		return api.ErrForm
	}
	v, e := m.p.value()
	if e != api.OK {
		return e
	}
	m.got = append(m.got, api.Member{Key: key, V: v})
	return api.OK
}

// key reads a key that the map does not have yet.
func (m *members) key() (string, api.Errno) {
	if m.p.peek() != '"' {
		return "", api.ErrForm
	}
	key, e := m.p.literal()
	if e != api.OK {
		return "", e
	}
	if _, there := m.keys[key]; there {
		return "", api.ErrTwice
	}
	m.keys[key] = struct{}{}
	return key, api.OK
}
