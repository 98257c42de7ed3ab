package lexer

import (
	"strconv"
	"strings"

	"nursery/api"
)

// signs are the signs, a longer one before those that it begins with.
var signs = [...]string{"&&", "||", "==", "!=", "<=", ">=", "<", ">", "+", "-", "*", "/", "%", "!", "=", "(", ")", "{", "}", ",", ";"}

// divide returns the tokens of a text, or the byte offset of an error.
func divide(s string) ([]api.Token, int, api.Errno) {
	var tokens []api.Token
	end := 0 // of the last token or comment
text:
	for i, c := range s {
		switch {
		case i < end || c == ' ' || c == '\t' || c == '\n':
			continue text
		case c == '#':
			for j, d := range s[i:] {
				if d == '\n' {
					end = i + j
					continue text
				}
			}
			break text
		}
		token, err := tokenAt(s, i)
		if err != api.OK {
			return nil, i, err
		}
		tokens = append(tokens, token)
		end = i + len(token.Text)
	}
	return append(tokens, api.Token{Kind: api.EndToken, At: len(s)}), 0, api.OK
}

// tokenAt returns the token of s that begins at a byte offset, which is less than the length of s.
func tokenAt(s string, at int) (api.Token, api.Errno) {
	rest := s[at:]
	switch first := rune(rest[0]); {
	case isLetter(first):
		return nameAt(rest[:wordSize(rest)], at)
	case isDigit(first):
		return numberAt(rest[:wordSize(rest)], at)
	}
	for _, sign := range signs {
		if strings.HasPrefix(rest, sign) {
			return api.Token{Kind: api.SignToken, Text: sign, At: at}, api.OK
		}
	}
	return api.Token{}, api.ErrSyntax
}

// nameAt returns the name that a word is.
func nameAt(word string, at int) (api.Token, api.Errno) {
	if len(word) > api.MaxName {
		return api.Token{}, api.ErrName
	}
	return api.Token{Kind: api.NameToken, Text: word, At: at}, api.OK
}

// numberAt returns the number that a word is, if it is one.
func numberAt(word string, at int) (api.Token, api.Errno) {
	if !isNumber(word) {
		return api.Token{}, api.ErrSyntax
	}
	value, err := strconv.Atoi(word)
	if err != nil || value > api.MaxInt {
		return api.Token{}, api.ErrRange
	}
	return api.Token{Kind: api.NumberToken, Text: word, Value: value, At: at}, api.OK
}

// isNumber reports whether a word consists of digits, without a 0 before others.
func isNumber(word string) bool {
	for _, c := range word {
		if !isDigit(c) {
			return false
		}
	}
	return word == "0" || word[0] != '0'
}

// wordSize returns how many letters, digits and _ are at the beginning of s.
func wordSize(s string) int {
	for i, c := range s {
		if !isLetter(c) && !isDigit(c) && c != '_' {
			return i
		}
	}
	return len(s)
}

func isLetter(c rune) bool {
	return c >= 'a' && c <= 'z'
}

func isDigit(c rune) bool {
	return c >= '0' && c <= '9'
}
