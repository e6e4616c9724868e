package label

import (
	"strings"

	"garner/api"
)

const opening = `="` // stands between a name and what is in the quotes

// writeLabel writes the text of a label.
func writeLabel(b *strings.Builder, x api.Label) {
	b.WriteString(x.Name)
	b.WriteString(opening)
	for i := range len(x.Value) {
		switch c := x.Value[i]; c {
		case '"', '\\':
			b.WriteByte('\\')
			b.WriteByte(c)
		case '\n':
			b.WriteString(`\n`)
		default:
			b.WriteByte(c)
		}
	}
	b.WriteByte('"')
}

// parse answers the list of which s is the text, whatever its labels are, and whether there is one.
func parse(s string) ([]api.Label, bool) {
	rest, ok := strings.CutPrefix(s, "{")
	if !ok {
		return nil, false
	}
	if rest == "}" {
		return nil, true
	}
	var l []api.Label
	for {
		var x api.Label
		if x, rest, ok = cutLabel(rest); !ok {
			return nil, false
		}
		l = append(l, x)
		if rest == "}" {
			return l, true
		}
		if rest, ok = strings.CutPrefix(rest, ","); !ok {
			return nil, false
		}
	}
}

// cutLabel answers the label with whose text s begins, what is behind it, and whether there is one.
func cutLabel(s string) (api.Label, string, bool) {
	name, rest, ok := strings.Cut(s, opening)
	if !ok || strings.Contains(name, " ") { // any other byte makes a name that Canon refuses, a space no text at all
		return api.Label{}, "", false
	}
	value, rest, ok := cutValue(rest)
	if !ok {
		return api.Label{}, "", false
	}
	return api.Label{Name: name, Value: value}, rest, true
}

// cutValue answers the value that is written ahead of the first bare quote of s, what is behind that, and whether there is one.
func cutValue(s string) (string, string, bool) {
	var value []byte
	for i := 0; i < len(s); i++ {
		c := s[i]
		switch c {
		case '"':
			return string(value), s[i+1:], true
		case '\n': // it is written as an escape
			return "", "", false
		case '\\':
			i++
			var ok bool
			if c, ok = escaped(s[i:]); !ok {
				return "", "", false
			}
		}
		value = append(value, c)
	}
	return "", "", false
}

// escaped answers the byte that s tells behind a backslash, and whether there is one that must be told so.
func escaped(s string) (byte, bool) {
	switch {
	case strings.HasPrefix(s, "n"):
		return '\n', true
	case strings.HasPrefix(s, `"`), strings.HasPrefix(s, `\`):
		return s[0], true
	}
	return 0, false
}
