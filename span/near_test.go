package span_test

import (
	"math"
	"math/rand"
	"testing"

	"legate/api"
	"legate/span"
)

// holdNear holds an answer of Near, in either order.
func holdNear(t *testing.T, a, b, skew int, want bool) {
	t.Helper()
	if got := span.Near(a, b, skew); got != want {
		t.Errorf("%d and %d, skew %d: %v", a, b, skew, got)
	}
	if got := span.Near(b, a, skew); got != want {
		t.Errorf("%d and %d, skew %d: %v", b, a, skew, got)
	}
}

func TestNear(t *testing.T) {
	for _, c := range []struct {
		a, b, skew int
		want       bool
	}{
		{5, 8, 3, true}, {5, 8, 2, false}, {5, 8, 4, true}, {5, 9, 3, false}, {5, 7, 3, true}, {5, 5, 0, true}, {5, 6, 0, false},
		{0, 0, 0, true}, {0, 1, 0, false}, {0, 1, 1, true}, {0, 0, last, true},
		{last, last, 0, true}, {last - 1, last, 0, false}, {last - 1, last, 1, true}, {last, last, last, true},
		{0, last, last, true}, {0, last, last - 1, false}, {1, last, last - 1, true}, {1, last, last, true}, {1, last, last - 2, false}, {0, last - 1, last - 1, true},
		{1000, 1300, api.Skew, true}, {1000, 1301, api.Skew, false}, {1000, 1299, api.Skew, true},
		// Such are no times, as near as they are.
		{-1, 0, 3, false}, {-1, -1, 0, false}, {-1, -1, 3, false}, {0, 0, -1, false}, {5, 5, -1, false}, {5, 5, math.MinInt, false}, {5, 5, math.MaxInt, false},
		{last + 1, last, 1, false}, {last + 1, last + 1, 0, false}, {last + 1, last + 1, last, false}, {0, 0, last + 1, false}, {0, last, last + 1, false},
		{math.MinInt, math.MinInt, 0, false}, {math.MaxInt, math.MaxInt, 0, false}, {math.MinInt, math.MaxInt, 1, false}, {math.MinInt, math.MinInt, math.MinInt, false}, {math.MaxInt, math.MaxInt, math.MaxInt, false}, {math.MinInt, 0, 0, false}, {math.MaxInt, 0, last, false}, {math.MinInt, 0, math.MinInt, false},
	} {
		holdNear(t, c.a, c.b, c.skew, c.want)
	}
}

// TestNearByOne: two times just as far apart as the skew, one less, and one more.
func TestNearByOne(t *testing.T) {
	for _, a := range timesAtEdges() {
		for _, skew := range timesAtEdges() {
			for by := -1; by <= 1; by++ {
				apart := max(skew+by, -skew-by)
				for _, b := range []int{a + apart, a - apart} {
					if isTime(b) {
						holdNear(t, a, b, skew, apart <= skew)
					}
				}
			}
		}
	}
}

// nearOf is the chapter's sentence of Near.
func nearOf(a, b, skew int) bool {
	return isTime(a) && isTime(b) && isTime(skew) && a-b <= skew && b-a <= skew
}

func TestNearAtEdges(t *testing.T) {
	for _, a := range numbersAtEdges() {
		for _, b := range numbersAtEdges() {
			for _, skew := range numbersAtEdges() {
				holdNear(t, a, b, skew, nearOf(a, b, skew))
			}
		}
	}
	r := rand.New(rand.NewSource(7))
	for range 200000 {
		x, y := byChance(r), byChance(r)
		holdNear(t, x.From, x.To, y.From, nearOf(x.From, x.To, y.From))
		for by := -1; by <= 1; by++ {
			skew := max(x.To-x.From, x.From-x.To) + by
			holdNear(t, x.From, x.To, skew, nearOf(x.From, x.To, skew))
		}
	}
}
