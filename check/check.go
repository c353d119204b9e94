// Package check tells what is wrong with a program.
package check

import (
	"races/api"
	"races/syntax"
	"races/token"
)

// Program answers the first error of a program in the document's order, with its place, or OK and 0.
func Program(text string) (api.Errno, int) {
	if len(text) > api.MaxText {
		return api.ErrLong, 0
	}
	tokens, badByte, cut := token.Cut(text)
	if !cut {
		return api.ErrToken, badByte
	}
	outline, badToken, read := syntax.Read(tokens, len(text))
	if !read {
		return api.ErrSyntax, badToken
	}
	return checkOutline(outline)
}

func checkOutline(o syntax.Outline) (api.Errno, int) {
	at, found := firstTooMany(o.Names)
	if found {
		return api.ErrMany, at
	}
	at, found = firstGivenTwice(o.Names)
	if found {
		return api.ErrName, at
	}
	at, found = firstMisused(o.Names)
	if found {
		return api.ErrName, at
	}
	at, found = firstWrongCall(o)
	if found {
		return api.ErrArity, at
	}
	return api.OK, 0
}
