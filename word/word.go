// Package word is layer 1: tagged words of 64 bits. See shared/doc/01-word.md.
package word

import (
	"strconv"
	"strings"

	"tendril/api"
)

const (
	tagBits   = 3
	tagMask   = 1<<tagBits - 1
	arityStep = 16 // a functor's value is the name's number times this, and the arity
	badText   = "bad"
)

var labels = [...]string{
	api.TagRef:  "ref",
	api.TagAtom: "atom",
	api.TagInt:  "int",
	api.TagStr:  "str",
	api.TagFun:  "fun",
	api.TagFwd:  "fwd",
}

// Pack is the good word of a tag and a value.
func Pack(tag, value int) (uint64, error) {
	if tag < api.TagRef || tag > api.TagFwd {
		return 0, fault(api.ErrTag)
	}
	if !fits(tag, value) {
		return 0, fault(api.ErrValue)
	}
	return uint64(value)<<tagBits | uint64(tag), nil
}

// Fun is the word of a functor.
func Fun(name, arity int) (uint64, error) {
	// Asked ahead of the product: it could wrap round, or an arity of 16 or more could pass for another name's.
	if !isFunctor(name, arity) {
		return 0, fault(api.ErrValue)
	}
	return Pack(api.TagFun, name*arityStep+arity)
}

// Good tells whether a word is good.
func Good(w uint64) bool { return fits(Tag(w), Value(w)) }

// Tag is a word's tag.
func Tag(w uint64) int { return int(w & tagMask) }

// Value is a word's value.
func Value(w uint64) int {
	// The shift of a signed number keeps its sign and rounds down, as the document asks; a division would round towards 0.
	return int(w) >> tagBits
}

// Head is a functor's name and number of arguments.
func Head(w uint64) (int, int, bool) {
	if !Good(w) || Tag(w) != api.TagFun {
		return 0, 0, false
	}
	name, arity := split(Value(w))
	return name, arity, true
}

// Place is the place that a word tells.
func Place(w uint64) (int, bool) {
	if !Good(w) {
		return 0, false
	}
	switch Tag(w) {
	case api.TagRef:
		fallthrough
	case api.TagStr:
		fallthrough
	case api.TagFwd:
		return Value(w), true
	}
	return 0, false
}

// Text is a word as text.
func Text(w uint64) string {
	if !Good(w) {
		return badText
	}
	label := labels[Tag(w)] + " "
	if name, arity, ok := Head(w); ok {
		return label + strconv.Itoa(name) + "/" + strconv.Itoa(arity)
	}
	return label + strconv.Itoa(Value(w))
}

// Read is the word that a text tells.
func Read(s string) (uint64, error) {
	// guess also takes numbers in other spellings (05, +5, -0): only the one that Text writes may pass.
	w, err := guess(s)
	if err != nil || Text(w) != s {
		return 0, fault(api.ErrWordText)
	}
	return w, nil
}

// guess is the only good word whose text s could be.
func guess(s string) (uint64, error) {
	label, rest, _ := strings.Cut(s, " ")
	tag := labelled(label)
	if tag == api.TagFun {
		return guessFunctor(rest)
	}
	value, err := strconv.Atoi(rest)
	if err != nil {
		return 0, err
	}
	return Pack(tag, value)
}

func guessFunctor(s string) (uint64, error) {
	before, behind, _ := strings.Cut(s, "/")
	name, err := strconv.Atoi(before)
	if err != nil {
		return 0, err
	}
	arity, err := strconv.Atoi(behind)
	if err != nil {
		return 0, err
	}
	return Fun(name, arity)
}

// labelled is the tag of a label, or -1, which Pack refuses.
func labelled(label string) int {
	for tag, l := range labels {
		if l == label {
			return tag
		}
	}
	return -1
}

// fits tells whether there is a good word of a tag and a value.
func fits(tag, value int) bool {
	switch tag {
	case api.TagRef, api.TagStr, api.TagFwd:
		return value >= 0 && value < api.MaxWords
	case api.TagAtom:
		return isName(value)
	case api.TagInt:
		return value >= -api.MaxInt && value <= api.MaxInt
	case api.TagFun:
		return isFunctor(split(value))
	}
	return false
}

// split is the name's number and the arity that a functor's value says; of a value below 0 one of them is below 0, so that isFunctor refuses it.
func split(value int) (int, int) { return value / arityStep, value % arityStep }

func isName(n int) bool { return n >= 0 && n < api.MaxNames }

func isFunctor(name, arity int) bool {
	return isName(name) && arity >= 1 && arity <= api.MaxArity
}

func fault(code api.Errno) error { return &api.Fault{Code: code, At: -1} }
