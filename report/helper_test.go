package report_test

import (
	"fmt"
	"testing"
)

func is[T comparable](t *testing.T, what string, got, want T) {
	t.Helper()
	if got != want {
		t.Errorf("%s: %.500s, wanted %.500s", what, fmt.Sprintf("%+v", got), fmt.Sprintf("%+v", want))
	}
}

// plain wants a text to have no other bytes than 10, and 32 to 126.
func plain(t *testing.T, what, s string) {
	t.Helper()
	for i := range len(s) {
		if b := s[i]; b != 10 && (b < 32 || b > 126) {
			t.Errorf("%s: a byte %d at %d", what, b, i)
			return
		}
	}
}

// all is a text of each byte.
func all() string {
	var b []byte
	for i := range 256 {
		b = append(b, byte(i))
	}
	return string(b)
}
