package answers

import (
	"strconv"

	"veil/value"
)

// write puts a text behind the data.
func (m *maker) write(text string) { m.data = append(m.data, text...) }

// quoted puts a text as a string behind others. No text has other bytes below 32 than these.
func quoted(out []byte, text string) []byte {
	out = append(out, '"')
	for i := range len(text) {
		switch c := text[i]; c {
		case '"', '\\':
			out = append(out, '\\', c)
		case '\n':
			out = append(out, `\n`...)
		case '\t':
			out = append(out, `\t`...)
		default:
			out = append(out, c)
		}
	}
	return append(out, '"')
}

// scalar writes a number, a string, true or false.
func (m *maker) scalar(v value.Value) {
	switch v.Kind {
	case value.Number:
		m.write(strconv.Itoa(v.Number))
	case value.String:
		m.data = quoted(m.data, v.Text)
	case value.True:
		m.write("true")
	case value.False:
		m.write("false")
	}
}

// names writes a list of names.
func (m *maker) names(list []string) {
	m.write("[")
	for i, name := range list {
		if i > 0 {
			m.write(",")
		}
		m.data = quoted(m.data, name)
	}
	m.write("]")
}

// types makes the list of the names of all types but the scalars.
func (m *maker) types() {
	var list []string
	for _, n := range m.store.Schema.Names {
		list = append(list, n.Name)
	}
	m.names(list)
}

// fields makes the list of the names of a type's fields that the viewer knows of, or null if it has none.
func (m *maker) fields(typ string) {
	all := m.store.Schema.Fields(typ)
	if all == nil {
		m.write("null")
		return
	}
	var list []string
	for i := range all {
		if !m.view.Hidden(&all[i]) {
			list = append(list, all[i].Name)
		}
	}
	m.names(list)
}
