package method

import (
	"strings"

	"interchange/api"
	"interchange/num"
	"interchange/table"
	"interchange/text"
)

// value is a value that is laid by its letter.
type value api.Val

func (v value) one() (string, api.Errno)   { return v.number(1) }
func (v value) two() (string, api.Errno)   { return v.number(2) }
func (v value) four() (string, api.Errno)  { return v.number(4) }
func (v value) eight() (string, api.Errno) { return v.number(8) }

func (v value) number(n int) (string, api.Errno) {
	s, e := num.Put(n, v.N)
	switch {
	case e != api.OK:
		return "", e
	case v.S != "":
		return "", api.ErrArg
	}
	return s, api.OK
}

// bit has no bytes of its own: it shares them with the bits beside it.
func (v value) bit() (string, api.Errno) {
	switch {
	case v.N > 1:
		return "", api.ErrBig
	case v.S != "":
		return "", api.ErrArg
	}
	return "", api.OK
}

func (v value) short() (string, api.Errno) {
	s, e := text.Short(v.S)
	switch {
	case e != api.OK:
		return "", e
	case v.N != 0:
		return "", api.ErrArg
	}
	return s, api.OK
}

func (v value) long() (string, api.Errno) {
	switch {
	case len(v.S) > api.MaxFrame:
		return "", api.ErrBig
	case v.N != 0:
		return "", api.ErrArg
	}
	return text.Long(v.S)
}

func (v value) table() (string, api.Errno) {
	if v.N != 0 {
		return "", api.ErrArg
	}
	_, rest, e := table.Take(v.S)
	if e != api.OK || rest != "" {
		return "", api.ErrForm
	}
	return v.S, api.OK
}

// aBit is the letter of a bit.
const aBit = 'b'

// ways are how a value is laid, by its letter: its bytes, or why it isn't right.
func ways() map[byte]func(value) (string, api.Errno) {
	return map[byte]func(value) (string, api.Errno){
		'o':  value.one,
		's':  value.two,
		'l':  value.four,
		'q':  value.eight,
		aBit: value.bit,
		'S':  value.short,
		'L':  value.long,
		'T':  value.table,
	}
}

// lay are the bytes of values, of which there are as many as letters, or the first error of them.
func lay(letters string, l []api.Val) (string, api.Errno) {
	by := ways()
	var laid strings.Builder
	var bits []bool
	gather := func(bit uint64) { bits = append(bits, bit == 1) }
values:
	for i, v := range l {
		s, e := by[letters[i]](value(v))
		switch {
		case e != api.OK:
			return "", e
		case letters[i] == aBit:
			gather(v.N)
			continue values
		}
		laid.WriteString(num.Bits(bits)) // no byte, if no bits stand ahead of it
		laid.WriteString(s)
		bits = nil
	}
	laid.WriteString(num.Bits(bits))
	return laid.String(), api.OK
}

// take takes values by their letters.
func take(letters, s string) ([]api.Val, string, api.Errno) {
	var l []api.Val
values:
	for letters != "" {
		bits := bitsAhead(letters)
		if bits > 0 {
			more, rest, e := takeBits(s, bits)
			if e != api.OK {
				return nil, "", e
			}
			l, letters, s = append(l, more...), letters[bits:], rest
			continue values
		}
		v, rest, e := takeOne(letters[0], s)
		if e != api.OK {
			return nil, "", e
		}
		l, letters, s = append(l, v), letters[1:], rest
	}
	return l, s, api.OK
}

// bitsAhead is how many bits stand side by side at the beginning.
func bitsAhead(letters string) int {
	return len(letters) - len(strings.TrimLeft(letters, string(aBit)))
}

func takeBits(s string, n int) ([]api.Val, string, api.Errno) {
	bits, rest, e := num.TakeBits(s, n)
	if e != api.OK {
		return nil, "", e
	}
	l := make([]api.Val, n)
	for i, is := range bits {
		if is {
			l[i].N = 1
		}
	}
	return l, rest, api.OK
}

// takeOne takes a value that is no bit.
func takeOne(letter byte, s string) (api.Val, string, api.Errno) {
	switch letter {
	case 'o':
		return ofNumber(num.Take(s, 1))
	case 's':
		return ofNumber(num.Take(s, 2))
	case 'l':
		return ofNumber(num.Take(s, 4))
	case 'q':
		return ofNumber(num.Take(s, 8))
	case 'S':
		return ofText(text.TakeShort(s))
	case 'L':
		return ofText(takeLong(s))
	}
	return ofText(table.Take(s))
}

func ofNumber(n uint64, rest string, e api.Errno) (api.Val, string, api.Errno) {
	return api.Val{N: n}, rest, e
}

func ofText(t, rest string, e api.Errno) (api.Val, string, api.Errno) {
	return api.Val{S: t}, rest, e
}

// takeLong takes a long text that may be a method's: text's own bound lies higher.
func takeLong(s string) (string, string, api.Errno) {
	t, rest, e := text.TakeLong(s)
	switch {
	case e != api.OK:
		return "", "", e
	case len(t) > api.MaxFrame:
		return "", "", api.ErrBig
	}
	return t, rest, api.OK
}
