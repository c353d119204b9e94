// Package token cuts the text of a program into tokens.
package token

import "races/api"

// Token is a word or a sign, with its place in the text.
type Token struct {
	Text string
	At   int
	Name bool // a word that has no meaning of its own
}

// Cut answers the tokens of a text, or, beside false, the place of the first byte that begins none.
func Cut(text string) ([]Token, int, bool) {
	var tokens []Token
	at := 0
	for at < len(text) {
		if isBlank(text[at]) {
			at++
			continue
		}
		size := sizeAt(text, at)
		if size == 0 {
			return nil, at, false
		}
		t := tokenAt(text, at, size)
		tokens = append(tokens, t)
		at += size
	}
	return tokens, 0, true
}

func tokenAt(text string, at int, size int) Token {
	if at < 0 || size < 1 || size > len(text)-at {
		return Token{}
	}
	word := text[at : at+size]
	name := isLetter(text[at]) && !hasMeaning(word)
	return Token{Text: word, At: at, Name: name}
}

// sizeAt answers how many bytes the token has that begins at a place, 0 if none begins there.
func sizeAt(text string, at int) int {
	size := lettersAt(text, at)
	if size > api.MaxWord {
		return 0
	}
	if size == 0 && isSign(text, at) {
		return 1
	}
	return size
}

func lettersAt(text string, at int) int {
	size := 0
	for i := at; i >= 0 && i < len(text) && isLetter(text[i]); i++ {
		size++
	}
	return size
}

func isBlank(b byte) bool {
	return b == ' ' || b == '\n'
}

func isLetter(b byte) bool {
	return b >= 'a' && b <= 'z'
}

func isSign(text string, at int) bool {
	if at < 0 || at >= len(text) {
		return false
	}
	switch text[at] {
	case ';', ',', '=', '!', '&', '|', '?', '(', ')', '{', '}':
		return true
	}
	return false
}

func hasMeaning(word string) bool {
	switch word {
	case "shared", "locks", "proc", "threads",
		"if", "else", "while", "assume", "acquire", "release", "return", "skip",
		"true", "false":
		return true
	}
	return false
}
