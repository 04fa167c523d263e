package know

import (
	"testing"

	"legate/api"
	"legate/term"
)

// waiting holds how many bodies are kept for keys that are not known.
func waiting(t *testing.T, s *Store, want int) {
	t.Helper()
	n := 0
	for _, l := range s.waits {
		n += len(l)
	}
	if n != want || want == 0 && len(s.waits) != 0 {
		t.Errorf("%d wait for %d keys, not %d", n, len(s.waits), want)
	}
}

// TestNoMoreWaitsThanIsNeeded: no answer tells what is kept for nothing.
func TestNoMoreWaitsThanIsNeeded(t *testing.T) {
	k, o := term.Key("ann", 1), term.Key("", 2)
	s := New()
	for range 3 {
		s.Learn(term.Seal(k, 2, term.Of("x")))
		s.Learn(term.Seal(k, 3, term.Seal(o, 4, term.Of("y"))))
	}
	waiting(t, s, 2)
	s.Learn(k)
	waiting(t, s, 1)
	s.Learn(term.List(o, k))
	waiting(t, s, 0)
	for _, key := range []api.Term{k, o} {
		s.Learn(term.Seal(key, 5, term.Of("z")))
		s.Learn(key)
	}
	waiting(t, s, 0)
}
