package load

import (
	"strings"

	"bridleway/api"
	"bridleway/label"
	"bridleway/value"
)

// statement is what a line says: from, to and directed are of an edge alone.
type statement struct {
	isEdge         bool
	name, from, to string
	directed       bool
	labels         []string
	props          []api.Prop
}

// reader reads a line from its beginning on, and keeps what it said so far.
type reader struct {
	rest string
	said statement
}

// read tells whether the line is one of those that say something.
func (r *reader) read() bool {
	parts := r.parts()
	for _, part := range parts {
		if !part() {
			return false
		}
	}
	return len(parts) > 0
}

// parts reads the first field, and is what reads those that are to follow: nothing, if no line begins like this one.
func (r *reader) parts() []func() bool {
	switch r.field() {
	case nodeField:
		return []func() bool{r.readName, r.readLabels, r.readProps}
	case edgeField:
		r.said.isEdge = true
		return []func() bool{r.readName, r.readFrom, r.readBetween, r.readTo, r.readLabels, r.readProps}
	}
	return nil
}

func (r *reader) readName() bool {
	r.said.name = r.field()
	return label.Word(r.said.name)
}

func (r *reader) readFrom() bool {
	r.said.from = r.field()
	return label.Word(r.said.from)
}

func (r *reader) readBetween() bool {
	field := r.field()
	r.said.directed = field == directedField
	return r.said.directed || field == flatField
}

func (r *reader) readTo() bool {
	r.said.to = r.field()
	return label.Word(r.said.to)
}

func (r *reader) readLabels() bool {
	for r.more() && strings.HasPrefix(r.rest, ":") {
		name := r.field()[len(":"):]
		if !label.Word(name) {
			return false
		}
		r.said.labels = append(r.said.labels, name)
	}
	return true
}

// readProps reads all that is left: whatever is no property may not stand there.
func (r *reader) readProps() bool {
	for r.more() {
		if !r.readProp() {
			return false
		}
	}
	return true
}

// readProp can't ask for a field, since a blank within quotes ends none: only behind the value it is known where the field ends.
func (r *reader) readProp() bool {
	name, text, _ := strings.Cut(r.rest, "=")
	v, size, ok := value.Read(text)
	if !ok || !label.Word(name) {
		return false
	}
	r.rest = text[size:]
	r.said.props = append(r.said.props, api.Prop{Name: name, Value: v})
	return r.rest == "" || strings.HasPrefix(r.rest, " ")
}

// more goes on to the next field, and tells whether there is one.
func (r *reader) more() bool {
	r.rest = strings.TrimLeft(r.rest, " ")
	if strings.HasPrefix(r.rest, "#") {
		r.rest = ""
	}
	return r.rest != ""
}

// field is the next field, up to a blank: empty, if there is none.
func (r *reader) field() string {
	r.more()
	field, rest, _ := strings.Cut(r.rest, " ")
	r.rest = rest
	return field
}
