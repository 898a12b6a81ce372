package table

import (
	"iter"

	"interchange/api"
	"interchange/text"
)

// field is a field of a table: its key, its value's bytes, and how deep that is.
type field struct {
	key, value string
	deep       int
}

// whole are the fields of t, and its depth, if it is a table with nothing behind it.
func whole(t string) (iter.Seq2[field, api.Errno], int, api.Errno) {
	value, table := takers()
	deep, e := alone(t, table)
	if e != api.OK {
		return nil, 0, e
	}
	body, _, e := enter(t, api.MaxDepth)
	return fields(body, api.MaxDepth-1, value), deep, e
}

// fields goes through the fields that stand one behind the other, up to the first that may not be.
func fields(body string, room int, value take) iter.Seq2[field, api.Errno] {
	return func(yield func(field, api.Errno) bool) {
		for rest := body; rest != ""; {
			f, more, e := takeField(rest, room, value)
			if !yield(f, e) || e != api.OK {
				return
			}
			rest = more
		}
	}
}

func takeField(s string, room int, value take) (field, string, api.Errno) {
	key, behind, e := text.TakeShort(s)
	if e != api.OK {
		return field{}, "", e
	}
	deep, rest, e := value(behind, room)
	if e != api.OK {
		return field{}, "", e
	}
	return field{key, front(behind, rest), deep}, rest, api.OK
}
