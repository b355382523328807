package grammar

import (
	"iter"
	"slices"
	"strings"
)

// ChangedBytes yields the texts in which one byte of a text is replaced by each of
// some other bytes, is removed, or is doubled.
func ChangedBytes(text, others string) iter.Seq[string] {
	return func(yield func(string) bool) {
		for i := range len(text) {
			before, after := text[:i], text[i+1:]
			for j := range len(others) {
				if !yield(before + others[j:j+1] + after) {
					return
				}
			}
			if !yield(before+after) || !yield(before+text[i:i+1]+text[i:]) {
				return
			}
		}
	}
}

// InsertedBytes yields the texts in which each of some bytes stands in front of each
// byte of a text, or behind all of it.
func InsertedBytes(text, others string) iter.Seq[string] {
	return func(yield func(string) bool) {
		for i := range len(text) + 1 {
			for j := range len(others) {
				if !yield(text[:i] + others[j:j+1] + text[i:]) {
					return
				}
			}
		}
	}
}

// ChangedLines yields the texts in which one line of a text is missing, is doubled at
// any place, or has changed places with another one, or in which a line that is empty
// or blank has been added.
func ChangedLines(text string) iter.Seq[string] {
	return func(yield func(string) bool) {
		lines := slices.Collect(strings.Lines(text))
		for i, line := range lines {
			if !yield(joined(slices.Delete(slices.Clone(lines), i, i+1))) {
				return
			}
			for j := range len(lines) + 1 {
				if !yieldInserted(yield, lines, j, line, "\n", " \n") {
					return
				}
			}
			for j := range lines {
				swapped := slices.Clone(lines)
				swapped[i], swapped[j] = lines[j], line
				if !yield(joined(swapped)) {
					return
				}
			}
		}
	}
}

// yieldInserted yields the texts in which each of the added lines is in front of the
// line with an index. It returns false if no further text is wanted.
func yieldInserted(yield func(string) bool, lines []string, index int, added ...string) bool {
	for _, line := range added {
		if !yield(joined(slices.Insert(slices.Clone(lines), index, line))) {
			return false
		}
	}
	return true
}

// joined returns the text of lines.
func joined(lines []string) string {
	return strings.Join(lines, "")
}

// AllBytes returns a string of all bytes from 0 to 255.
func AllBytes() string {
	var bytes []byte
	for b := range 256 {
		bytes = append(bytes, byte(b))
	}
	return string(bytes)
}
