package canon

import (
	"strconv"

	"introit/api"
	"introit/utf"
)

// writer appends valid values to out. Validity bounds how deep they nest, and so the recursion.
type writer struct {
	out   []byte
	kinds []kindWriter
}

// kindWriter writes a value of one Kind. Each is a method expression of writer.
type kindWriter func(*writer, api.Value)

// kindWriters returns what writes each Kind, at the Kind's number.
func kindWriters() []kindWriter {
	return []kindWriter{
		api.Null: (*writer).null,
		api.Bool: (*writer).truth,
		api.Int:  (*writer).integer,
		api.Text: (*writer).text,
		api.List: (*writer).list,
		api.Map:  (*writer).table,
	}
}

func (w *writer) value(v api.Value) { w.kinds[v.Kind](w, v) }

func (w *writer) null(api.Value) { w.out = append(w.out, "null"...) }

func (w *writer) truth(v api.Value) { w.out = strconv.AppendBool(w.out, v.N == 1) }

func (w *writer) integer(v api.Value) { w.out = strconv.AppendInt(w.out, v.N, 10) }

func (w *writer) text(v api.Value) { w.literal(v.S) }

func (w *writer) list(v api.Value) {
	w.out = append(w.out, '[')
	for i, x := range v.L {
		w.separate(i)
		w.value(x)
	}
	w.out = append(w.out, ']')
}

// table keeps the order of the members: those of a valid Map ascend by key.
func (w *writer) table(v api.Value) {
	w.out = append(w.out, '{')
	for i, m := range v.M {
		w.separate(i)
		w.literal(m.Key)
		w.out = append(w.out, ':')
		w.value(m.V)
	}
	w.out = append(w.out, '}')
}

// separate writes what stands before the item with the number i, counted from 0.
func (w *writer) separate(i int) {
	if i > 0 {
		w.out = append(w.out, ',')
	}
}

// literal writes a Text or a key.
func (w *writer) literal(s string) {
	q, _ := utf.Quote(s) // no error: texts and keys of valid values are well-formed
	w.out = append(w.out, q...)
}
