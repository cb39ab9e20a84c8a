package syntax

import (
	"testing"

	"majordomo/api"
)

// R1: whatever is panicked with, Parse answers an error for it.
func TestCaught(t *testing.T) {
	for x, want := range map[any]int{refused{0}: 0, refused{7}: 7, "a fault": 0, 7: 0} {
		if at, e := caught(x); at != want || e != api.ErrSyntax {
			t.Errorf("caught(%v): %d, %d; want %d", x, at, e, want)
		}
	}
}
