// Package check tells what is wrong with a program.
package check

import (
	"races/api"
	"races/syntax"
	"races/token"
)

// Program answers the first error of a program in the document's order, with its place, or OK and 0.
func Program(text string) (api.Errno, int) {
	_, e, at := Read(text)
	return e, at
}

// Read answers the outline of a program, or its first error as Program does.
func Read(text string) (syntax.Outline, api.Errno, int) {
	if len(text) > api.MaxText {
		return syntax.Outline{}, api.ErrLong, 0
	}
	tokens, badByte, cut := token.Cut(text)
	if !cut {
		return syntax.Outline{}, api.ErrToken, badByte
	}
	outline, badToken, read := syntax.Read(tokens, len(text))
	if !read {
		return syntax.Outline{}, api.ErrSyntax, badToken
	}
	e, at := checkOutline(outline)
	if e != api.OK {
		return syntax.Outline{}, e, at
	}
	return outline, api.OK, 0
}

func checkOutline(o syntax.Outline) (api.Errno, int) {
	at, found := firstTooMany(o.Names)
	if found {
		return api.ErrMany, at
	}
	at, found = firstGivenTwice(o.Names)
	if found {
		return api.ErrName, at
	}
	at, found = firstMisused(o.Names)
	if found {
		return api.ErrName, at
	}
	at, found = firstWrongCall(o)
	if found {
		return api.ErrArity, at
	}
	return api.OK, 0
}
