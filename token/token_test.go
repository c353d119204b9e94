package token

import (
	"strings"
	"testing"
)

func TestCutWordsAndSigns(t *testing.T) {
	text := "shared x;\n ab=!(c&d|?),{}iff if"
	want := []Token{
		{"shared", 0, false}, {"x", 7, true}, {";", 8, false}, {"ab", 11, true}, {"=", 13, false}, {"!", 14, false},
		{"(", 15, false}, {"c", 16, true}, {"&", 17, false}, {"d", 18, true}, {"|", 19, false}, {"?", 20, false},
		{")", 21, false}, {",", 22, false}, {"{", 23, false}, {"}", 24, false}, {"iff", 25, true}, {"if", 29, false},
	}
	tokens, place, ok := Cut(text)
	if !ok || place != 0 || len(tokens) != len(want) {
		t.Fatalf("Cut(%q) = %v, %d, %v", text, tokens, place, ok)
	}
	for i := range want {
		if tokens[i] != want[i] {
			t.Errorf("token %d is %v, want %v", i, tokens[i], want[i])
		}
	}
}

func TestCutKnowsTheWordsWithAMeaning(t *testing.T) {
	words := strings.Fields("shared locks proc threads if else while assume acquire release return skip true false")
	for _, word := range words {
		for _, c := range []struct {
			text string
			name bool
		}{{word, false}, {word[1:], true}, {word[:len(word)-1], true}} {
			tokens, _, ok := Cut(c.text)
			if !ok || len(tokens) != 1 || tokens[0].Name != c.name {
				t.Errorf("Cut(%q) = %v, %v", c.text, tokens, ok)
			}
		}
	}
}

func TestCutNothing(t *testing.T) {
	for _, text := range []string{"", " ", "\n", " \n\n  "} {
		tokens, place, ok := Cut(text)
		if !ok || place != 0 || len(tokens) != 0 {
			t.Errorf("Cut(%q) = %v, %d, %v", text, tokens, place, ok)
		}
	}
}

func TestCutEveryByte(t *testing.T) {
	for b := 0; b < 256; b++ {
		good := strings.IndexByte("abcdefghijklmnopqrstuvwxyz;,=!&|?(){} \n", byte(b)) >= 0
		text := "p " + string([]byte{byte(b)})
		tokens, place, ok := Cut(text)
		if ok != good {
			t.Errorf("Cut(%q): %v", text, ok)
		}
		if !good && (place != 2 || tokens != nil) {
			t.Errorf("Cut(%q) = %v, %d", text, tokens, place)
		}
	}
}

func TestCutLongWords(t *testing.T) {
	for _, c := range []struct {
		text  string
		place int
		ok    bool
	}{
		{"abcdefgh", 0, true}, {"abcdefghi", 0, false}, {"a abcdefghi", 2, false}, {"abcdefgh abcdefgh", 0, true},
		{"abcdefgh\nabcdefgh=abcdefghijkl", 18, false}, {"abcdefghi $", 0, false}, {"$ abcdefghi", 0, false},
		{"truefalse", 0, false}, {"abcdefghI", 8, false}, {"abcdefgh1", 8, false},
	} {
		_, place, ok := Cut(c.text)
		if place != c.place || ok != c.ok {
			t.Errorf("Cut(%q) = %d, %v", c.text, place, ok)
		}
	}
}
