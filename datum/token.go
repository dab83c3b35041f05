package datum

import (
	"strings"

	"stepper/api"
	"stepper/fault"
)

type kind int

const (
	opening kind = iota
	closing
	quoting
	truth
	number
	name
)

type token struct {
	kind kind
	text string
}

func split(text string) ([]token, error) {
	var tokens []token
	for at := 0; at < len(text); {
		if isBlank(text[at]) {
			at++
			continue
		}
		t, ok := firstToken(text[at:])
		if !ok {
			return nil, fault.While("splitting into tokens", api.ErrText)
		}
		tokens = append(tokens, t)
		at += len(t.text)
	}
	return tokens, nil
}

// firstToken is the token with which a text that is not empty begins.
func firstToken(text string) (token, bool) {
	switch text[0] {
	case '(':
		return token{opening, text[:1]}, true
	case ')':
		return token{closing, text[:1]}, true
	case '\'':
		return token{quoting, text[:1]}, true
	case '#':
		return firstTruth(text)
	}
	return firstWord(text)
}

func firstTruth(text string) (token, bool) {
	if strings.HasPrefix(text, "#t") || strings.HasPrefix(text, "#f") {
		return token{truth, text[:2]}, true
	}
	return token{}, false
}

func firstWord(text string) (token, bool) {
	end := 0
	for end < len(text) && isInWord(text[end]) {
		end++
	}
	word := text[:end]
	if isNumber(word) {
		return token{number, word}, true
	}
	if isName(word) {
		return token{name, word}, true
	}
	return token{}, false
}

func isNumber(word string) bool {
	digits := strings.TrimPrefix(word, "-")
	for i := range len(digits) {
		if !isDigit(digits[i]) {
			return false
		}
	}
	return digits != ""
}

func isName(word string) bool {
	for i := range len(word) {
		if isDigit(word[i]) {
			return false
		}
	}
	return word != ""
}

func isBlank(b byte) bool { return b == ' ' || b == '\n' }

func isDigit(b byte) bool { return '0' <= b && b <= '9' }

func isInWord(b byte) bool {
	return 'a' <= b && b <= 'z' || isDigit(b) || strings.IndexByte("+-*/<=>?!", b) >= 0
}
