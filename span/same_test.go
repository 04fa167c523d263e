package span_test

import (
	"math"
	"math/rand"
	"sync"
	"testing"

	"legate/api"
	"legate/span"
)

// answers are what all calls answer.
type answers struct {
	valid, near                   bool
	point                         complex128
	of, ofPoint, ofOwn, both, cut api.Span
	bothE, cutE, checked          api.Errno
}

func ask(a, b api.Span, n, skew int) answers {
	var x answers
	x.valid, x.near = span.Valid(a), span.Near(a.From, n, skew)
	x.point = span.Point(a)
	x.of, x.ofPoint = span.Of(complex(float64(n), float64(skew))), span.Of(x.point)
	x.ofOwn = span.Of(complex(float64(b.From), float64(b.To)))
	x.both, x.bothE = span.Both(a, b)
	x.cut, x.cutE = span.Cut(a, n)
	x.checked = span.Check(a, n, skew)
	return x
}

// TestSameAnswers: the same arguments give the same answers, whatever was asked between, and by many at once.
func TestSameAnswers(t *testing.T) {
	type asked struct {
		a, b    api.Span
		n, skew int
	}
	r := rand.New(rand.NewSource(8))
	numbers := numbersAtEdges()
	var l []asked
	var first []answers
	for i := range 20000 {
		q := asked{byChance(r), byChance(r), numbers[r.Intn(len(numbers))], r.Intn(400) - 2}
		if i%5 == 0 {
			q.a = of(numbers[r.Intn(len(numbers))], numbers[r.Intn(len(numbers))])
		}
		l, first = append(l, q), append(first, ask(q.a, q.b, q.n, q.skew))
	}
	var w sync.WaitGroup
	for range 8 {
		w.Go(func() {
			for i := range l {
				q := l[len(l)-1-i]
				if got := ask(q.a, q.b, q.n, q.skew); got != first[len(l)-1-i] {
					t.Errorf("%v: %v, not %v", q, got, first[len(l)-1-i])
					return
				}
			}
		})
	}
	w.Wait()
}

// TestAllEnd: each call ends, and none panics, at the least and the greatest that an int holds, and at all floats that are odd.
func TestAllEnd(t *testing.T) {
	far := []int{math.MinInt, math.MinInt + 1, -1, 0, 1, last, last + 1, math.MaxInt - 1, math.MaxInt}
	for _, from := range far {
		for _, to := range far {
			for _, n := range far {
				for _, skew := range far {
					x := ask(of(from, to), of(n, skew), n, skew)
					if !mayBe(of(from, to)) && (x.valid || x.point != 0 || x.bothE != api.ErrArg || x.cutE != api.ErrArg || x.checked != api.ErrArg) {
						t.Errorf("%d, %d, %d, %d: %v", from, to, n, skew, x)
					}
					if x.bothE != api.OK && x.both != (api.Span{}) || x.cutE != api.OK && x.cut != (api.Span{}) {
						t.Errorf("%d, %d, %d, %d: a span with an error: %v", from, to, n, skew, x)
					}
				}
			}
		}
	}
	r := rand.New(rand.NewSource(9))
	for range 200000 {
		c := complex(math.Float64frombits(r.Uint64()), math.Float64frombits(r.Uint64()))
		if s := span.Of(c); s != (api.Span{}) && complex(float64(s.From), float64(s.To)) != c {
			t.Errorf("%v: %v", c, s)
		}
	}
}
