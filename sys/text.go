package sys

import (
	"slices"
	"strconv"
	"strings"

	"drumlin/api"
)

const (
	blank     = " "
	mostWords = 3   // of a call
	mark      = '%' // what stands ahead of a byte that isn't as it is
	digits    = "0123456789ABCDEF"
)

// Text: as text.
func (c Call) Text() string {
	words := []string{Name(c.Op)}
	for _, letter := range []byte(shapeOf(c.Op).has) {
		words = append(words, c.word(letter))
	}
	return strings.Join(words, blank)
}

// word: of a thing that a call has.
func (c Call) word(letter byte) string {
	switch letter {
	case 'A':
		return strconv.Itoa(c.A)
	case 'B':
		return strconv.Itoa(c.B)
	case 'S':
		return Escape([]byte(c.S))
	case 'T':
		return Escape([]byte(c.T))
	}
	return Escape(c.Data)
}

// Parse: and back. What was read is told again and held against the text, so that whatever Text never makes is refused.
func Parse(s string) (Call, api.Errno) {
	words := strings.SplitN(s, blank, mostWords+1)
	op := slices.IndexFunc(shapes[:], func(x shape) bool { return x.name == words[0] })
	has := shapeOf(op).has
	if Name(op) == "" || len(words) != 1+len(has) {
		return Call{}, api.ErrForm
	}
	c := Call{Op: op}
	for i, word := range words[1:] {
		c.take(has[i], word)
	}
	if c.Text() != s {
		return Call{}, api.ErrForm
	}
	return c, api.OK
}

// take: a thing that a call has, of its word; of another word anything.
func (c *Call) take(letter byte, word string) {
	b, _ := Unescape(word)
	switch letter {
	case 'A':
		c.A, _ = strconv.Atoi(word)
	case 'B':
		c.B, _ = strconv.Atoi(word)
	case 'S':
		c.S = string(b)
	case 'T':
		c.T = string(b)
	case 'D':
		c.Data = b
	}
}

// Escape: bytes in a text.
func Escape(b []byte) string {
	if len(b) == 0 {
		return string(mark)
	}
	var text []byte
	for _, c := range b {
		if isPlain(c) {
			text = append(text, c)
		} else {
			text = append(text, mark, digits[c>>4], digits[c&15])
		}
	}
	return string(text)
}

// isPlain: does it stand as it is?
func isPlain(c byte) bool {
	switch {
	case c >= 'a' && c <= 'z', c >= 'A' && c <= 'Z', c >= '0' && c <= '9':
		return true
	}
	return strings.IndexByte("./_-", c) >= 0
}

// Unescape: and back. What isn't as it should be is read as anything, and found as the bytes are escaped again.
func Unescape(s string) ([]byte, bool) {
	var b []byte
	for i := 0; i < len(s); i++ {
		c := s[i]
		if c == mark && i+2 < len(s) {
			c = value(s[i+1])<<4 | value(s[i+2])
			i += 2
		}
		b = append(b, c)
	}
	if s == string(mark) {
		return nil, true
	}
	if Escape(b) != s {
		return nil, false
	}
	return b, true
}

// value: of a digit.
func value(digit byte) byte {
	return byte(strings.IndexByte(digits, digit))
}

// Text: of an answer.
func (a Answer) Text() string {
	words := []string{"ok"}
	if a.Err != api.OK {
		words = []string{"error", strconv.Itoa(int(a.Err))}
	}
	more := []string{strconv.Itoa(a.N), strconv.Itoa(a.M), Escape(a.Data)}
	switch {
	case len(a.Data) > 0:
	case a.M != 0:
		more = more[:2]
	case a.N != 0:
		more = more[:1]
	default:
		more = nil
	}
	return strings.Join(append(words, more...), blank)
}
