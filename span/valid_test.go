package span_test

import (
	"math"
	"testing"

	"legate/api"
	"legate/span"
)

func TestLastSecond(t *testing.T) {
	if api.MaxTime != last || last != 1<<40 {
		t.Error(api.MaxTime)
	}
}

func TestValid(t *testing.T) {
	for _, c := range []struct {
		s    api.Span
		want bool
	}{
		{of(0, 0), true}, {of(0, 1), true}, {of(3, 9), true}, {of(9, 9), true}, {of(9, 3), false}, {of(9, 8), false}, {of(9, 10), true},
		{of(-1, 9), false}, {of(-1, -1), false}, {of(-1, 0), false}, {of(-1, last), false}, {of(-9, -3), false}, {of(0, -1), false},
		{of(0, last-1), true}, {of(0, last), true}, {of(0, last+1), false},
		{of(last, last), true}, {of(last, last-1), false}, {of(last, last+1), false}, {of(last, 0), false}, {of(last-1, last), true},
		{of(last+1, last+1), false}, {of(last+1, last), false}, {of(last+1, last+2), false}, {of(last+1, 0), false},
		{of(math.MinInt, 0), false}, {of(math.MinInt, 9), false}, {of(math.MinInt, math.MinInt), false}, {of(math.MinInt, math.MaxInt), false},
		{of(0, math.MinInt), false}, {of(0, math.MaxInt), false}, {of(9, math.MinInt), false}, {of(9, math.MaxInt), false},
		{of(math.MaxInt, math.MaxInt), false}, {of(math.MaxInt, 0), false}, {of(math.MaxInt, math.MinInt), false},
	} {
		if got := span.Valid(c.s); got != c.want {
			t.Errorf("%v: %v", c.s, got)
		}
	}
}

func TestValidAtEdges(t *testing.T) {
	for _, s := range spansAtEdges() {
		if got := span.Valid(s); got != mayBe(s) {
			t.Errorf("%v: %v", s, got)
		}
	}
	for _, s := range oddSpans() {
		if span.Valid(s) {
			t.Errorf("%v is valid", s)
		}
	}
	for _, s := range emptySpans() {
		if !span.Valid(s) {
			t.Errorf("%v is not valid", s)
		}
	}
}
