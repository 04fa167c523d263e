package span_test

import (
	"math"
	"math/rand"
	"testing"

	"legate/api"
	"legate/span"
)

// holdBoth holds an answer of Both, in either order.
func holdBoth(t *testing.T, a, b, want api.Span, e api.Errno) {
	t.Helper()
	if s, f := span.Both(a, b); s != want || f != e {
		t.Errorf("%v and %v: %v, %v, not %v, %v", a, b, s, f, want, e)
	}
	if s, f := span.Both(b, a); s != want || f != e {
		t.Errorf("%v and %v: %v, %v, not %v, %v", b, a, s, f, want, e)
	}
}

func TestBothAsTheChapterSays(t *testing.T) {
	holdBoth(t, of(3, 9), of(5, 20), of(5, 9), api.OK)
}

func TestBoth(t *testing.T) {
	zero := api.Span{}
	for _, c := range []struct {
		a, b, want api.Span
		e          api.Errno
	}{
		// They overlap, by much, and by one second.
		{of(0, 9), of(3, 20), of(3, 9), api.OK}, {of(3, 9), of(8, 20), of(8, 9), api.OK}, {of(0, last), of(last-1, last), of(last-1, last), api.OK},
		{of(0, last-1), of(1, last), of(1, last-1), api.OK}, {of(0, last/2+1), of(last/2, last), of(last/2, last/2+1), api.OK},
		// They touch.
		{of(3, 9), of(9, 20), zero, api.ErrLife}, {of(0, 1), of(1, 2), zero, api.ErrLife}, {of(0, last-1), of(last-1, last), zero, api.ErrLife}, {of(0, last/2), of(last/2, last), zero, api.ErrLife},
		// They lie apart.
		{of(3, 9), of(10, 20), zero, api.ErrLife}, {of(0, 1), of(2, 3), zero, api.ErrLife}, {of(0, 1), of(last-1, last), zero, api.ErrLife},
		// One lies in the other.
		{of(3, 9), of(4, 8), of(4, 8), api.OK}, {of(3, 9), of(3, 8), of(3, 8), api.OK}, {of(3, 9), of(4, 9), of(4, 9), api.OK}, {of(0, last), of(3, 9), of(3, 9), api.OK}, {of(0, last), of(0, 1), of(0, 1), api.OK},
		// They are the same.
		{of(3, 9), of(3, 9), of(3, 9), api.OK}, {of(0, 1), of(0, 1), of(0, 1), api.OK}, {of(0, last), of(0, last), of(0, last), api.OK}, {of(last-1, last), of(last-1, last), of(last-1, last), api.OK},
	} {
		holdBoth(t, c.a, c.b, c.want, c.e)
	}
}

// TestBothWithNothingInOne: wherever an empty span lies, nothing is in both.
func TestBothWithNothingInOne(t *testing.T) {
	for _, a := range emptySpans() {
		for _, b := range validAtEdges() {
			holdBoth(t, a, b, api.Span{}, api.ErrLife)
		}
	}
}

func TestBothOfOddSpans(t *testing.T) {
	odd := oddSpans()
	for _, a := range odd {
		for _, b := range odd {
			holdBoth(t, a, b, api.Span{}, api.ErrArg)
		}
		// What is not valid is told ahead of nothing being left.
		for _, b := range []api.Span{of(0, 0), of(3, 3), of(0, 9), of(3, 9), of(0, last), of(last, last), of(last-1, last)} {
			holdBoth(t, a, b, api.Span{}, api.ErrArg)
		}
	}
}

// bothOf is the chapter's sentence of Both.
func bothOf(a, b api.Span) (api.Span, api.Errno) {
	if !mayBe(a) || !mayBe(b) {
		return api.Span{}, api.ErrArg
	}
	s := a
	if b.From > s.From {
		s.From = b.From
	}
	if b.To < s.To {
		s.To = b.To
	}
	if s.To <= s.From {
		return api.Span{}, api.ErrLife
	}
	return s, api.OK
}

func TestBothAtEdges(t *testing.T) {
	l := append(validAtEdges(), oddSpans()...)
	for _, a := range l {
		for _, b := range l {
			want, e := bothOf(a, b)
			if s, f := span.Both(a, b); s != want || f != e {
				t.Errorf("%v and %v: %v, %v, not %v, %v", a, b, s, f, want, e)
			}
		}
	}
	r := rand.New(rand.NewSource(3))
	for range 200000 {
		a, b := byChance(r), byChance(r)
		want, e := bothOf(a, b)
		holdBoth(t, a, b, want, e)
	}
}

// in tells whether a time is in a span, by the word itself: from one second up to ahead of another one.
func in(s api.Span, at int) bool { return s.From <= at && at < s.To }

// meet holds that a time is in both of two valid spans just if it is in what Both answers, by the word and by Check.
func meet(t *testing.T, a, b api.Span, at int) {
	t.Helper()
	s, _ := span.Both(a, b)
	if (in(a, at) && in(b, at)) != in(s, at) {
		t.Errorf("%d, in %v and %v: %v", at, a, b, s)
	}
	checked := span.Check(a, at, 0) == api.OK && span.Check(b, at, 0) == api.OK
	if checked != (span.Check(s, at, 0) == api.OK) {
		t.Errorf("%d, checked in %v and %v: %v", at, a, b, s)
	}
}

// TestBothIsAnIntersection: all small spans with all small times, and others by chance at the times around their own.
func TestBothIsAnIntersection(t *testing.T) {
	var small []api.Span
	for from := range 7 {
		for to := from; to < 7; to++ {
			small = append(small, of(from, to), of(last-to, last-from))
		}
	}
	for _, a := range small {
		for _, b := range small {
			for i := range 9 {
				meet(t, a, b, i)
				meet(t, a, b, last-i)
			}
		}
	}
	r := rand.New(rand.NewSource(4))
	for range 50000 {
		a, b := byChance(r), byChance(r)
		if !mayBe(a) || !mayBe(b) {
			continue
		}
		for _, at := range []int{a.From, a.To, b.From, b.To} {
			for by := -1; by <= 1; by++ {
				if isTime(at + by) {
					meet(t, a, b, at+by)
				}
			}
		}
	}
}

func TestCut(t *testing.T) {
	zero := api.Span{}
	for _, c := range []struct {
		s    api.Span
		life int
		want api.Span
		e    api.Errno
	}{
		// It cuts, by much, and by one second.
		{of(3, 9), 2, of(3, 5), api.OK}, {of(3, 9), 1, of(3, 4), api.OK}, {of(3, 9), 5, of(3, 8), api.OK}, {of(0, last), 1, of(0, 1), api.OK}, {of(0, last), last - 1, of(0, last-1), api.OK}, {of(1, last), last - 2, of(1, last-1), api.OK},
		{of(last-2, last), 1, of(last-2, last-1), api.OK}, {of(last/2, last), last/2 - 1, of(last/2, last-1), api.OK},
		// It changes nothing.
		{of(3, 9), 6, of(3, 9), api.OK}, {of(3, 9), 7, of(3, 9), api.OK}, {of(3, 9), last, of(3, 9), api.OK}, {of(0, last), last, of(0, last), api.OK}, {of(1, last), last, of(1, last), api.OK}, {of(1, last), last - 1, of(1, last), api.OK},
		{of(last-1, last), 1, of(last-1, last), api.OK}, {of(last-1, last), last, of(last-1, last), api.OK}, {of(0, 1), 1, of(0, 1), api.OK}, {of(0, 1), last, of(0, 1), api.OK},
		// Nothing is left.
		{of(3, 9), 0, zero, api.ErrLife}, {of(0, last), 0, zero, api.ErrLife}, {of(last-1, last), 0, zero, api.ErrLife}, {of(0, 1), 0, zero, api.ErrLife},
		{of(3, 3), 0, zero, api.ErrLife}, {of(3, 3), 5, zero, api.ErrLife}, {of(0, 0), 1, zero, api.ErrLife}, {of(last, last), 1, zero, api.ErrLife}, {of(last, last), last, zero, api.ErrLife}, {of(0, 0), last, zero, api.ErrLife},
		// It can't be asked.
		{of(3, 9), -1, zero, api.ErrArg}, {of(3, 9), last + 1, zero, api.ErrArg}, {of(3, 9), math.MinInt, zero, api.ErrArg}, {of(3, 9), math.MaxInt, zero, api.ErrArg},
		{of(3, 3), -1, zero, api.ErrArg}, {of(3, 3), last + 1, zero, api.ErrArg}, {of(last, last), math.MaxInt, zero, api.ErrArg}, {of(last-1, last), math.MaxInt, zero, api.ErrArg}, {of(0, last), last + 1, zero, api.ErrArg}, {of(0, last), -1, zero, api.ErrArg},
	} {
		if s, e := span.Cut(c.s, c.life); s != c.want || e != c.e {
			t.Errorf("%v, %d: %v, %v, not %v, %v", c.s, c.life, s, e, c.want, c.e)
		}
	}
	for _, x := range oddSpans() {
		for _, life := range numbersAtEdges() {
			if s, e := span.Cut(x, life); s != zero || e != api.ErrArg {
				t.Errorf("%v, %d: %v, %v", x, life, s, e)
			}
		}
	}
}

// cutOf is the chapter's sentence of Cut.
func cutOf(s api.Span, life int) (api.Span, api.Errno) {
	if !mayBe(s) || life < 0 || life > last {
		return api.Span{}, api.ErrArg
	}
	if s.To > s.From+life {
		s.To = s.From + life
	}
	if s.To <= s.From {
		return api.Span{}, api.ErrLife
	}
	return s, api.OK
}

func TestCutAtEdges(t *testing.T) {
	hold := func(x api.Span, life int) {
		want, e := cutOf(x, life)
		if s, f := span.Cut(x, life); s != want || f != e {
			t.Errorf("%v, %d: %v, %v, not %v, %v", x, life, s, f, want, e)
		}
	}
	for _, x := range spansAtEdges() {
		for _, life := range numbersAtEdges() {
			hold(x, life)
		}
		if mayBe(x) {
			for by := -1; by <= 1; by++ {
				hold(x, x.To-x.From+by)
			}
		}
	}
	r := rand.New(rand.NewSource(5))
	for range 200000 {
		hold(byChance(r), byChance(r).To)
	}
}
