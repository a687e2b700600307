package syntax

import (
	"strings"

	"spigot/api"
	"spigot/value"
)

type kind uint8

const (
	kindEnd  kind = iota // of the text
	kindNone             // no token begins here, or it cannot stand here
	kindName
	kindWord
	kindVariable
	kindNumber
	kindString
	kindSign
)

// token has of a variable the name, of a string the characters, and of all
// others what stands in the text.
type token struct {
	kind kind
	text string
	at   int
}

// signs has the longer ones ahead: of several that may stand the longest is
// taken.
var signs = [...]string{
	"..", "//", "==", "!=", "<=", ">=", "|=",
	".", "|", ",", "<", ">", "=", "+", "-", "*", "/", "%", "?", "(", ")", "[", "]", "{", "}", ":", ";",
}

// readTokens parts a text into tokens up to its end, or to where no token
// begins: the last one tells which.
func readTokens(s string) []token {
	var tokens []token
	at := 0
reading:
	for {
		for at < len(s) && isBlank(s[at]) {
			at++
		}
		if at == len(s) {
			return append(tokens, token{kind: kindEnd, at: at})
		}
		for _, known := range signs {
			if strings.HasPrefix(s[at:], known) {
				tokens = append(tokens, token{kindSign, known, at})
				at += len(known)
				continue reading
			}
		}
		next, behind := readLong(s, at)
		tokens = append(tokens, next)
		if next.kind == kindNone {
			return tokens
		}
		at = behind
	}
}

// readLong reads a token that is no sign, and tells the place behind it.
func readLong(s string, at int) (token, int) {
	switch c := s[at]; {
	case isLetter(c):
		behind := nameEnd(s, at)
		return named(kindName, s[at:behind], at), behind
	case c == '$':
		behind := nameEnd(s, at+1)
		return named(kindVariable, s[at+1:behind], at), behind
	case isDigit(c):
		behind := at
		for behind < len(s) && isDigit(s[behind]) {
			behind++
		}
		if behind-at <= api.MaxDigits {
			return token{kindNumber, s[at:behind], at}, behind
		}
	case c == '"':
		if chars, behind, ok := value.ReadString(s, at); ok {
			return token{kindString, chars, at}, behind
		}
	}
	return token{kind: kindNone, at: at}, at
}

func named(k kind, s string, at int) token {
	switch {
	case s == "" || len(s) > api.MaxName:
		return token{kind: kindNone, at: at}
	case k == kindName && isWord(s):
		return token{kindWord, s, at}
	default:
		return token{k, s, at}
	}
}

func isBlank(c byte) bool { return c == ' ' || c == '\t' || c == '\n' || c == '\r' }

func isLetter(c byte) bool { return 'a' <= c && c <= 'z' || c == '_' }

func isDigit(c byte) bool { return '0' <= c && c <= '9' }

// nameEnd is the place behind the name that begins at start, or start if none
// does.
func nameEnd(s string, start int) int {
	at := start
	for at < len(s) && (isLetter(s[at]) || at > start && isDigit(s[at])) {
		at++
	}
	return at
}

func isWord(s string) bool {
	switch s {
	case "def", "as", "if", "then", "else", "end", "try", "catch", "reduce", "foreach",
		"label", "break", "and", "or", "null", "false", "true":
		return true
	}
	return false
}
