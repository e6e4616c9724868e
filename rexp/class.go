package rexp

import (
	"cmp"
	"slices"
	"strings"
	"unicode/utf8"
)

const unplain = `\[]^-` // the runes that don't stand for themselves in a class

// class reads what stands behind an opening bracket, and the closing one, and answers its runes' pairs.
func (in *reader) class() []rune {
	inverted := in.skip('^')
	members := in.member()
	for !in.skip(']') {
		members = append(members, in.member()...)
	}
	if inverted {
		return others(inOrder(members))
	}
	return inOrder(members)
}

// member reads a member of a class and answers its runes' pairs.
func (in *reader) member() []rune {
	first := in.part()
	if !in.skip('-') {
		return first
	}
	last := in.part()
	need(isRune(first) && isRune(last) && first[0] <= last[0])
	return []rune{first[0], last[0]}
}

// part reads a rune or an escape in a class and answers its runes' pairs.
func (in *reader) part() []rune {
	c := in.next()
	if c == '\\' {
		return in.escape()
	}
	need(!strings.ContainsRune(unplain, c))
	return []rune{c, c}
}

// escape reads what stands behind a backslash and answers its runes' pairs.
func (in *reader) escape() []rune {
	switch c := in.next(); c {
	case 'n':
		return []rune{'\n', '\n'}
	case 't':
		return []rune{'\t', '\t'}
	case 'd':
		return []rune{'0', '9'}
	case 'w':
		return []rune{'0', '9', 'A', 'Z', '_', '_', 'a', 'z'}
	case 's':
		return []rune{'\t', '\n', '\r', '\r', ' ', ' '}
	default:
		need(c == '-' || strings.ContainsRune(special, c))
		return []rune{c, c}
	}
}

// isRune tells whether pairs have one rune alone.
func isRune(pairs []rune) bool {
	return len(pairs) == 2 && pairs[0] == pairs[1]
}

// inOrder answers the same runes in pairs that rise, with gaps between them.
func inOrder(pairs []rune) []rune {
	var spans [][2]rune
	for p := range slices.Chunk(pairs, 2) {
		spans = append(spans, [2]rune{p[0], p[1]})
	}
	slices.SortFunc(spans, func(a, b [2]rune) int { return cmp.Compare(a[0], b[0]) })
	var l []rune
	for _, p := range spans {
		if last := len(l) - 1; last > 0 && p[0] <= l[last]+1 {
			l[last] = max(l[last], p[1])
		} else {
			l = append(l, p[0], p[1])
		}
	}
	return l
}

// others answers the pairs of the runes that aren't in these, which rise with gaps between them.
func others(pairs []rune) []rune {
	var l []rune
	from := rune(0)
	for p := range slices.Chunk(pairs, 2) {
		if from < p[0] {
			l = append(l, from, p[0]-1)
		}
		from = p[1] + 1
	}
	if from <= utf8.MaxRune {
		l = append(l, from, utf8.MaxRune)
	}
	return l
}
