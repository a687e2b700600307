// Package text: values as texts: see DOC.md.
package text

import (
	"spigot/api"
	"spigot/value"
)

// Canon tells the canonical text of a value's text (P3).
func Canon(s string) (string, api.Errno, int) {
	v, at, ok := value.Read(s)
	if !ok {
		return "", api.ErrText, at
	}
	return value.Canonical(v), api.OK, 0
}
