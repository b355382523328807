// Package grammar finds, by a definition, the first offending byte of a text. Unlike
// a scanner it follows all ways of reading the text at once, so that the tests of the
// packages that parse texts can compare both, and it changes texts for them. Nothing
// but tests uses it.
package grammar

import (
	"slices"
	"strconv"
	"strings"

	"computus/catalogue"
)

// mostDigits is the greatest number of digits of a number.
const mostDigits = 10

// Form is a set of texts, of which there is at least one. It returns all offsets at
// which a part of a text that begins at start and is one of these texts ends, and the
// greatest offset up to which the text from start on is a prefix of one of them.
type Form func(text string, start int) (ends []int, reach int)

// Match reports whether a text is one of a form. If it is not, it also returns the
// length of the longest prefix of the text that is also a prefix of one of them.
func Match(form Form, text string) (bool, int) {
	ends, reach := form(text, 0)
	if slices.Contains(ends, len(text)) {
		return true, 0
	}
	return false, reach
}

// Word returns the form of a word.
func Word(word string) Form {
	return single(
		func(part string) bool { return part == word },
		func(part string) bool { return strings.HasPrefix(word, part) },
	)
}

// Words returns the form of any of the words.
func Words(words ...string) Form {
	var forms []Form
	for _, word := range words {
		forms = append(forms, Word(word))
	}
	return Choice(forms...)
}

// Number returns the form of the numbers of layer 25.
func Number() Form {
	return single(isNumber, func(part string) bool {
		return part == "" || part == "-" || isNumber(part)
	})
}

// Identifier returns the form of the identifiers of layer 17.
func Identifier() Form {
	return single(catalogue.Identifier, func(part string) bool {
		return part == "" || catalogue.Identifier(part) || catalogue.Identifier(part+"a")
	})
}

// Sequence returns the form of texts of the forms, one after the other.
func Sequence(forms ...Form) Form {
	return func(text string, start int) ([]int, int) {
		ends, reach := []int{start}, start
		for _, form := range forms {
			var far int
			ends, far = from(text, ends, form)
			reach = max(reach, far)
		}
		return ends, reach
	}
}

// Choice returns the form of the texts of any of the forms.
func Choice(forms ...Form) Form {
	return func(text string, start int) ([]int, int) {
		var all []int
		reach := start
		for _, form := range forms {
			ends, far := form(text, start)
			all = append(all, ends...)
			reach = max(reach, far)
		}
		return distinct(all), reach
	}
}

// Repeat returns the form of any number of texts of a form, none of which is empty,
// one after the other.
func Repeat(form Form) Form {
	return func(text string, start int) ([]int, int) {
		var all []int
		reach := start
		for ends := []int{start}; len(ends) > 0; {
			all = append(all, ends...)
			var far int
			ends, far = from(text, ends, form)
			reach = max(reach, far)
		}
		return distinct(all), reach
	}
}

// single returns a form by whether a part of a text is one of its texts, and whether
// it is a prefix of one of them.
func single(whole, prefix func(part string) bool) Form {
	return func(text string, start int) ([]int, int) {
		var ends []int
		end := start
		for ; end <= len(text) && prefix(text[start:end]); end++ {
			if whole(text[start:end]) {
				ends = append(ends, end)
			}
		}
		// The empty prefix has always been possible.
		return ends, end - 1
	}
}

// isNumber reports whether a part of a text is a number of layer 25.
func isNumber(part string) bool {
	n, err := strconv.Atoi(part)
	return err == nil && strconv.Itoa(n) == part && len(strings.TrimPrefix(part, "-")) <= mostDigits
}

// from returns what a form returns at all starts together. The offset that it reaches
// is 0 if there are none.
func from(text string, starts []int, form Form) ([]int, int) {
	var all []int
	reach := 0
	for _, start := range starts {
		ends, far := form(text, start)
		all = append(all, ends...)
		reach = max(reach, far)
	}
	return distinct(all), reach
}

// distinct returns offsets in increasing order, without repetitions.
func distinct(offsets []int) []int {
	slices.Sort(offsets)
	return slices.Compact(offsets)
}
