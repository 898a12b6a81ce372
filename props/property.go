package props

import (
	"iter"
	"math/bits"

	"interchange/api"
	"interchange/num"
	"interchange/table"
	"interchange/text"
)

// letters are the properties' letters, in order.
const letters = "SSTooSSSSqSSSS"

// firstBit is the bit of flags that tells the first property; the bits of the others lie below it.
const firstBit = 15

// allFlags are the flags of all properties.
const allFlags = 1<<(firstBit+1) - 1<<(firstBit+1-len(letters))

func isProperty(i int) bool { return 0 <= i && i < len(letters) }

// flag is the one that tells the i-th property.
func flag(i int) uint64 { return 1 << (firstBit - i) }

// place is where the value of the i-th property stands among those that flags tell, and where it ends: there too, if they don't tell it.
func place(flags uint64, i int) (int, int) {
	upTo := flags >> (firstBit - i)
	return bits.OnesCount64(upTo >> 1), bits.OnesCount64(upTo)
}

// told goes through the properties that flags tell.
func told(flags uint64) iter.Seq[int] {
	return func(yield func(int) bool) {
		for i := range len(letters) {
			if flags&flag(i) != 0 && !yield(i) {
				return
			}
		}
	}
}

// property is one of a head: where its value stands there.
type property struct {
	api.Head
	at int
}

func (p property) value() api.Val { return p.Vals[p.at] }

// properties goes through those of a head that has as many values as its flags tell: which one it is, and what holds its value.
func properties(h api.Head) iter.Seq2[int, func() api.Val] {
	return func(yield func(int, func() api.Val) bool) {
		at := 0
		for i := range told(h.Flags) {
			if !yield(i, property{h, at}.value) {
				return
			}
			at++
		}
	}
}

// lay are a value's bytes by its letter, or why it isn't right. What is right is chapter 6's to say, but its package is none that this one calls.
func lay(letter byte, v api.Val) (string, api.Errno) {
	switch letter {
	case 'o':
		return number(1, v)
	case 'q':
		return number(8, v)
	case 'S':
		return shortText(v)
	}
	return wholeTable(v)
}

func number(n int, v api.Val) (string, api.Errno) {
	s, e := num.Put(n, v.N)
	switch {
	case e != api.OK:
		return "", e
	case v.S != "":
		return "", api.ErrArg
	}
	return s, api.OK
}

func shortText(v api.Val) (string, api.Errno) {
	s, e := text.Short(v.S)
	switch {
	case e != api.OK:
		return "", e
	case v.N != 0:
		return "", api.ErrArg
	}
	return s, api.OK
}

func wholeTable(v api.Val) (string, api.Errno) {
	if v.N != 0 {
		return "", api.ErrArg
	}
	_, rest, e := table.Take(v.S)
	if e != api.OK || rest != "" {
		return "", api.ErrForm
	}
	return v.S, api.OK
}

// takeAll takes the values of the properties that flags tell.
func takeAll(flags uint64, s string) ([]api.Val, string, api.Errno) {
	var l []api.Val
	for i := range told(flags) {
		v, rest, e := take(letters[i], s)
		if e != api.OK {
			return nil, "", e
		}
		l, s = append(l, v), rest
	}
	return l, s, api.OK
}

func take(letter byte, s string) (api.Val, string, api.Errno) {
	switch letter {
	case 'o':
		return ofNumber(num.Take(s, 1))
	case 'q':
		return ofNumber(num.Take(s, 8))
	case 'S':
		return ofText(text.TakeShort(s))
	}
	return ofText(table.Take(s))
}

func ofNumber(n uint64, rest string, e api.Errno) (api.Val, string, api.Errno) {
	return api.Val{N: n}, rest, e
}

func ofText(t, rest string, e api.Errno) (api.Val, string, api.Errno) {
	return api.Val{S: t}, rest, e
}
