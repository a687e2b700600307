package value

import "unicode/utf8"

// Surrogates: a first half and a second half, in \u escapes one behind the
// other, stand for one character.
const (
	firstHalf     = 0xD800
	secondHalf    = 0xDC00
	lastHalf      = 0xDFFF
	halfBits      = 10
	beyondOneHalf = 0x10000
)

// ReadString reads the string that begins with the quote at text[at]: its
// characters and the place behind it, or the place where it goes wrong and
// false.
func ReadString(text string, at int) (string, int, bool) {
	var chars []byte
	at++
characters:
	for at < len(text) {
		switch c := text[at]; {
		case c == '"':
			return string(chars), at + 1, true
		case c < ' ':
			break characters
		case c == '\\':
			char, end, ok := readEscape(text, at)
			at = end
			if !ok {
				break characters
			}
			chars = utf8.AppendRune(chars, char)
		default:
			low, high, more := following(c)
			if more < 0 {
				break characters
			}
			chars = append(chars, c)
			at++
			for range more {
				if at == len(text) || text[at] < low || text[at] > high {
					break characters
				}
				chars = append(chars, text[at])
				at++
				low, high = 0x80, 0xBF
			}
		}
	}
	return "", at, false
}

// following tells the bounds of the byte that follows c in a character's UTF-8
// and how many bytes follow in all (-1: none begins with c). Only the first of
// them has bounds of its own: they shut out surrogates, what is too great, and
// longer forms than are needed.
func following(c byte) (low, high byte, more int) {
	switch {
	case c < 0x80:
		return 0, 0, 0
	case c < 0xC2 || c > 0xF4:
		return 0, 0, -1
	case c < 0xE0:
		return 0x80, 0xBF, 1
	case c == 0xE0:
		return 0xA0, 0xBF, 2
	case c == 0xED:
		return 0x80, 0x9F, 2
	case c < 0xF0:
		return 0x80, 0xBF, 2
	case c == 0xF0:
		return 0x90, 0xBF, 3
	case c == 0xF4:
		return 0x80, 0x8F, 3
	default:
		return 0x80, 0xBF, 3
	}
}

// readEscape reads the escape that begins with the backslash at text[at]: its
// character and the place behind it, or the place where it goes wrong and
// false.
func readEscape(text string, at int) (rune, int, bool) {
	if at+1 == len(text) {
		return 0, len(text), false
	}
	char := rune(0)
	switch c := text[at+1]; c {
	case '"', '\\', '/':
		char = rune(c)
	case 'b':
		char = '\b'
	case 'f':
		char = '\f'
	case 'n':
		char = '\n'
	case 'r':
		char = '\r'
	case 't':
		char = '\t'
	case 'u':
		return readUnicode(text, at)
	default:
		return 0, at + 1, false
	}
	return char, at + 2, true
}

// readUnicode reads a \u escape, two of them if they are a pair. A second half
// alone shows at its second digit, and is wrong from there on, whatever
// follows.
func readUnicode(text string, start int) (rune, int, bool) {
	char := rune(0)
	for i := range 4 {
		at := start + 2 + i
		if at == len(text) {
			return 0, at, false
		}
		digit, ok := hexDigit(text[at])
		if !ok {
			return 0, at, false
		}
		char = char<<4 | digit
		if i == 1 && beginsSecondHalf(char, i) {
			return 0, start, false
		}
	}
	if char < firstHalf || char > lastHalf {
		return char, start + 6, true
	}
	return readSecondHalf(text, start, char)
}

// readSecondHalf reads what must follow the first half at text[start]. A byte
// that cannot stand in it is told at the first half's place.
func readSecondHalf(text string, start int, first rune) (rune, int, bool) {
	second := rune(0)
	for i := range 6 {
		at := start + 6 + i
		if at == len(text) {
			return 0, at, false
		}
		ok := false
		switch i {
		case 0:
			ok = text[at] == '\\'
		case 1:
			ok = text[at] == 'u'
		default:
			digit, isHex := hexDigit(text[at])
			second = second<<4 | digit
			ok = isHex && beginsSecondHalf(second, i-2)
		}
		if !ok {
			return 0, start, false
		}
	}
	char := beyondOneHalf + (first-firstHalf)<<halfBits + (second - secondHalf)
	return char, start + 12, true
}

// beginsSecondHalf tells whether a second half's digits, up to the one at i,
// may be these.
func beginsSecondHalf(digits rune, i int) bool {
	missing := 4 * (3 - i)
	return secondHalf>>missing <= digits && digits <= lastHalf>>missing
}

func hexDigit(c byte) (rune, bool) {
	switch {
	case isDigit(c):
		return rune(c - '0'), true
	case 'a' <= c && c <= 'f':
		return rune(c-'a') + 10, true
	case 'A' <= c && c <= 'F':
		return rune(c-'A') + 10, true
	default:
		return 0, false
	}
}
