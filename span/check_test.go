package span_test

import (
	"math"
	"math/rand"
	"testing"

	"legate/api"
	"legate/span"
)

// holdCheck holds an answer of Check.
func holdCheck(t *testing.T, s api.Span, at, skew int, want api.Errno) {
	t.Helper()
	if e := span.Check(s, at, skew); e != want {
		t.Errorf("%v at %d, skew %d: %v, not %v", s, at, skew, e, want)
	}
}

// TestCheckAroundSpans: just ahead of From, at From, just ahead of To and at To.
func TestCheckAroundSpans(t *testing.T) {
	for _, s := range []api.Span{of(100, 200), of(1000, 1001), of(300, 301), of(1<<32, 1<<33), of(300, last-300)} {
		for _, skew := range []int{0, 1, 2, 10, 100, 299, 300} {
			for _, c := range []struct {
				at   int
				want api.Errno
			}{
				{s.From - skew - 1, api.ErrEarly}, {s.From - skew, api.OK}, {s.From, api.OK},
				{s.To - 1, api.OK}, {s.To + skew - 1, api.OK}, {s.To + skew, api.ErrLate}, {s.To + skew + 1, api.ErrLate},
			} {
				if isTime(c.at) {
					holdCheck(t, s, c.at, skew, c.want)
				}
			}
		}
	}
}

func TestCheck(t *testing.T) {
	for _, c := range []struct {
		s        api.Span
		at, skew int
		want     api.Errno
	}{
		{of(3, 9), 2, 0, api.ErrEarly}, {of(3, 9), 3, 0, api.OK}, {of(3, 9), 8, 0, api.OK}, {of(3, 9), 9, 0, api.ErrLate},
		{of(3, 9), 1, 1, api.ErrEarly}, {of(3, 9), 2, 1, api.OK}, {of(3, 9), 9, 1, api.OK}, {of(3, 9), 10, 1, api.ErrLate},
		{of(3, 9), 0, 2, api.ErrEarly}, {of(3, 9), 0, 3, api.OK}, {of(3, 9), 11, 3, api.OK}, {of(3, 9), 12, 3, api.ErrLate},
		{of(0, 1), 0, 0, api.OK}, {of(0, 1), 1, 0, api.ErrLate}, {of(0, 1), 1, 1, api.OK}, {of(0, 1), 2, 1, api.ErrLate},
		{of(0, last), 0, 0, api.OK}, {of(0, last), last - 1, 0, api.OK}, {of(0, last), last, 0, api.ErrLate}, {of(0, last), last, 1, api.OK}, {of(0, last), last, last, api.OK}, {of(0, last), 0, last, api.OK},
		{of(last-1, last), last - 2, 0, api.ErrEarly}, {of(last-1, last), last - 1, 0, api.OK}, {of(last-1, last), last, 0, api.ErrLate}, {of(last-1, last), last - 2, 1, api.OK}, {of(last-1, last), 0, last - 2, api.ErrEarly}, {of(last-1, last), 0, last - 1, api.OK}, {of(last-1, last), 0, last, api.OK},
		{of(0, 1), last, last, api.OK}, {of(0, 1), last, last - 1, api.ErrLate}, {of(0, 1), last, 0, api.ErrLate}, {of(1, 2), last, last, api.OK}, {of(1, 2), last, last - 1, api.OK}, {of(1, 2), last, last - 2, api.ErrLate},
	} {
		holdCheck(t, c.s, c.at, c.skew, c.want)
	}
}

// TestCheckWithNothingIn: a span with nothing in it is early or late without a skew, and taken by clocks that are apart.
func TestCheckWithNothingIn(t *testing.T) {
	for _, n := range []int{3, 300, 1 << 32, last - 3} {
		s := of(n, n)
		for skew := range 3 {
			holdCheck(t, s, n-skew-1, skew, api.ErrEarly)
			holdCheck(t, s, n+skew, skew, api.ErrLate)
			holdCheck(t, s, n+skew+1, skew, api.ErrLate)
			for at := n - skew; at < n+skew; at++ {
				holdCheck(t, s, at, skew, api.OK)
			}
		}
	}
	holdCheck(t, of(0, 0), 0, 0, api.ErrLate)
	holdCheck(t, of(0, 0), 0, 1, api.OK)
	holdCheck(t, of(last, last), last-1, 0, api.ErrEarly)
	holdCheck(t, of(last, last), last, 0, api.ErrLate)
	holdCheck(t, of(last, last), last, 1, api.OK)
}

// TestCheckTellsArgumentsFirst: what can't be asked is told ahead of what is early or late.
func TestCheckTellsArgumentsFirst(t *testing.T) {
	for _, s := range []api.Span{of(0, 0), of(0, 1), of(3, 3), of(3, 9), of(0, last), of(last-1, last), of(last, last)} {
		for _, n := range []int{math.MinInt, math.MinInt + 1, -last, -1, last + 1, last + 2, 2 * last, math.MaxInt - 1, math.MaxInt} {
			for _, m := range numbersAtEdges() {
				holdCheck(t, s, n, m, api.ErrArg)
				holdCheck(t, s, m, n, api.ErrArg)
			}
		}
	}
	for _, s := range oddSpans() {
		for _, at := range numbersAtEdges() {
			for _, skew := range numbersAtEdges() {
				holdCheck(t, s, at, skew, api.ErrArg)
			}
		}
	}
}

// checkOf is the chapter's sentence of Check.
func checkOf(s api.Span, at, skew int) api.Errno {
	if !mayBe(s) || !isTime(at) || !isTime(skew) {
		return api.ErrArg
	}
	if at+skew < s.From {
		return api.ErrEarly
	}
	if !(at-skew < s.To) {
		return api.ErrLate
	}
	return api.OK
}

func TestCheckAtEdges(t *testing.T) {
	numbers := numbersAtEdges()
	for _, s := range spansAtEdges() {
		for _, at := range numbers {
			for _, skew := range numbers {
				holdCheck(t, s, at, skew, checkOf(s, at, skew))
			}
		}
	}
	r := rand.New(rand.NewSource(6))
	for range 200000 {
		s, x := byChance(r), byChance(r)
		holdCheck(t, s, x.From, x.To, checkOf(s, x.From, x.To))
		skew := r.Intn(5)
		for _, at := range []int{s.From - skew, s.To + skew} {
			for by := -1; by <= 1; by++ {
				holdCheck(t, s, at+by, skew, checkOf(s, at+by, skew))
			}
		}
	}
}
