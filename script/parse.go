package script

import (
	"strconv"
	"strings"

	"drumlin/api"
	"drumlin/sys"
)

// Parse: a command of its line. What was read is told again and held against the line, so that whatever Text never makes is refused.
func Parse(line string) (Cmd, api.Errno) {
	first, rest, _ := strings.Cut(line, blank)
	c := Cmd{Kind: kindOf(first)}
	if c.Kind == Call {
		rest = line // it has no word of its own
	}
	for _, letter := range []byte(shapeOf(c.Kind).has) {
		rest = c.take(letter, rest)
	}
	if text := c.Text(); text == "" || text != line {
		return Cmd{}, api.ErrForm
	}
	return c, api.OK
}

// kindOf: of the word that a line begins with: what is that of no kind can only be a call's Pid. (Without a word it is the kind 0, which is none.)
func kindOf(word string) int {
	for kind, x := range shapes {
		if x.word == word {
			return kind
		}
	}
	return Call
}

// take: a thing that a command has, of the text that begins with it; of another text anything. What stands behind its first word.
func (c *Cmd) take(letter byte, s string) string {
	word, rest, _ := strings.Cut(s, blank)
	switch letter {
	case 'P':
		c.Pid = number(word)
	case 'N':
		c.N = number(word)
	case 'S':
		c.Segs = segs(s)
	case 'K':
		c.Keep = keep(s)
	case 'C':
		c.Call, _ = sys.Parse(s)
	}
	return rest
}

// number: of its word; of another word anything.
func number(word string) int {
	n, _ := strconv.Atoi(word)
	return n
}

// segs: of their words.
func segs(s string) []int {
	if s == "" {
		return nil
	}
	var list []int
	for word := range strings.SplitSeq(s, blank) {
		list = append(list, number(word))
	}
	return list
}

// keep: of its word.
func keep(word string) []bool {
	var list []bool
	for _, digit := range []byte(word) {
		list = append(list, digit == '1')
	}
	return list
}

// Lines: of a text.
func Lines(s string) []string {
	var list []string
	for line := range strings.SplitSeq(s, newline) {
		if line != "" && !strings.HasPrefix(line, remark) {
			list = append(list, line)
		}
	}
	return list
}
