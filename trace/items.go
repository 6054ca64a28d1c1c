package trace

import (
	"strings"

	"drumlin/api"
	"drumlin/fs"
	"drumlin/sys"
)

const (
	newline   = "\n"
	mostWords = 3 // of an item
)

// What the line of an item begins with.
const (
	directory = "d"
	file      = "f"
	link      = "l"
)

// Items: each a line.
func Items(items []fs.Item) string {
	var text strings.Builder
	for _, x := range items {
		text.WriteString(told(x))
	}
	return text.String()
}

// told: the line of an item.
func told(x fs.Item) string {
	path := sys.Escape([]byte(x.Path))
	list := []string{file, path, sys.Escape(x.Data)}
	switch {
	case x.Link != "":
		list = []string{link, path, sys.Escape([]byte(x.Link))}
	case x.Kind == api.Dir:
		list = []string{directory, path}
	}
	return strings.Join(list, blank) + newline
}

// ParseItems: and back. What was read of a line is told again and held against it, so that whatever Items never makes is refused.
func ParseItems(s string) ([]fs.Item, api.Errno) {
	var items []fs.Item
	for line := range strings.Lines(s) {
		x := item(line)
		if told(x) != line {
			return nil, api.ErrForm
		}
		items = append(items, x)
	}
	return items, api.OK
}

// item: of its line; of another line any.
func item(line string) fs.Item {
	var list [mostWords]string
	copy(list[:], strings.SplitN(strings.TrimSuffix(line, newline), blank, mostWords))
	path, _ := sys.Unescape(list[1])
	rest, _ := sys.Unescape(list[2])
	switch list[0] {
	case directory:
		return fs.Item{Path: string(path), Kind: api.Dir}
	case link:
		return fs.Item{Path: string(path), Kind: api.File, Link: string(rest)}
	}
	return fs.Item{Path: string(path), Kind: api.File, Data: rest}
}
