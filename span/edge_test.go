package span_test

import (
	"math"

	"legate/api"
)

// last is the last second, written out.
const last = 1099511627776

func of(from, to int) api.Span { return api.Span{From: from, To: to} }

// numbersAtEdges are times, and such that are none, the least first.
func numbersAtEdges() []int {
	return []int{
		math.MinInt, math.MinInt + 1, math.MinInt + last, -last - 1, -last, -1 << 32, -300, -1,
		0, 1, 2, 3, 8, 9, 10, 300, 1 << 31, 1 << 32, last/2 - 1, last / 2, last/2 + 1, last - 2, last - 1, last,
		last + 1, last + 2, 2 * last, 1 << 53, 1<<53 + 1, math.MaxInt - last, math.MaxInt - 1, math.MaxInt,
	}
}

// timesAtEdges are those of them that are times.
func timesAtEdges() []int {
	var l []int
	for _, n := range numbersAtEdges() {
		if isTime(n) {
			l = append(l, n)
		}
	}
	return l
}

// spansAtEdges are spans of all these numbers, valid and not.
func spansAtEdges() []api.Span {
	var l []api.Span
	for _, from := range numbersAtEdges() {
		for _, to := range numbersAtEdges() {
			l = append(l, of(from, to))
		}
	}
	return l
}

// validAtEdges are those of them that the chapter lets be.
func validAtEdges() []api.Span {
	var l []api.Span
	for _, s := range spansAtEdges() {
		if mayBe(s) {
			l = append(l, s)
		}
	}
	return l
}

// oddSpans are spans that are not valid, each of another cause.
func oddSpans() []api.Span {
	return []api.Span{
		of(4, 3), of(1, 0), of(last, last-1), of(-1, 0), of(-1, -1), of(-1, 9), of(0, -1), of(0, last+1), of(3, last+1), of(last, last+1), of(last+1, last+1), of(last+1, last), of(last+1, 0),
		of(math.MinInt, 0), of(math.MinInt, math.MinInt), of(math.MinInt, math.MaxInt), of(0, math.MaxInt), of(math.MaxInt, math.MaxInt), of(math.MaxInt, 0), of(0, math.MinInt), of(math.MaxInt, math.MinInt),
	}
}

// emptySpans are valid, with nothing in them.
func emptySpans() []api.Span {
	return []api.Span{of(0, 0), of(1, 1), of(3, 3), of(9, 9), of(last/2, last/2), of(last-1, last-1), of(last, last)}
}

// isTime and mayBe are the chapter's sentences.
func isTime(n int) bool { return 0 <= n && n <= last }

func mayBe(s api.Span) bool { return s.From >= 0 && s.To >= s.From && s.To <= last }
