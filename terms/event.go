package terms

import "trommel/api"

// Event holds an event's values by their attributes, so that none has to be looked for.
type Event struct {
	has    [api.MaxAttrs]bool
	values [api.MaxAttrs]api.Value
}

// ReadEvent lays out an event's fields. If one may not be, it gives the number of the first such field and false.
func ReadEvent(schema []int, fields []api.Field) (Event, int, bool) {
	var e Event
	for i, f := range fields {
		if !hasAttr(schema, f.Attr) || e.has[f.Attr] || !fits(schema[f.Attr], f.V) {
			return Event{}, i, false
		}
		e.has[f.Attr] = true
		e.values[f.Attr] = f.V
	}
	return e, 0, true
}

// Value gives the event's value of an attribute, and whether it has one.
func (e *Event) Value(attr int) (api.Value, bool) {
	return e.values[attr], e.has[attr]
}
