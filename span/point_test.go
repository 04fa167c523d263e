package span_test

import (
	"math"
	"math/rand"
	"testing"

	"legate/api"
	"legate/span"
)

func TestPoint(t *testing.T) {
	for _, c := range []struct {
		s    api.Span
		want complex128
	}{
		{of(0, 0), 0}, {of(0, 1), 1i}, {of(3, 9), 3 + 9i}, {of(9, 9), 9 + 9i}, {of(100, 200), 100 + 200i},
		{of(0, last), 1099511627776i}, {of(last, last), 1099511627776 + 1099511627776i}, {of(last-1, last), 1099511627775 + 1099511627776i}, {of(1, last-1), 1 + 1099511627775i},
		{of(1<<32, 1<<32+1), 4294967296 + 4294967297i},
	} {
		if got := span.Point(c.s); got != c.want {
			t.Errorf("%v: %v", c.s, got)
		}
	}
	for _, s := range oddSpans() {
		if got := span.Point(s); got != 0 {
			t.Errorf("%v: %v", s, got)
		}
	}
}

// TestPointsTellSpans: a point's parts are the times, to the second, and Of answers the span again.
func TestPointsTellSpans(t *testing.T) {
	for _, s := range spansAtEdges() {
		tells(t, s)
	}
	r := rand.New(rand.NewSource(1))
	for range 100000 {
		tells(t, byChance(r))
	}
}

func tells(t *testing.T, s api.Span) {
	t.Helper()
	p := span.Point(s)
	want := api.Span{}
	if mayBe(s) {
		want = s
	}
	if int(real(p)) != want.From || int(imag(p)) != want.To || real(p) != math.Trunc(real(p)) || imag(p) != math.Trunc(imag(p)) {
		t.Errorf("%v: %v", s, p)
	}
	if got := span.Of(p); got != want {
		t.Errorf("%v is %v, and that %v", s, p, got)
	}
}

func TestOf(t *testing.T) {
	for _, c := range []struct {
		c    complex128
		want api.Span
	}{
		{0, of(0, 0)}, {1i, of(0, 1)}, {1 + 2i, of(1, 2)}, {2 + 1i, of(0, 0)}, {3 + 9i, of(3, 9)}, {9 + 9i, of(9, 9)}, {9 + 8i, of(0, 0)}, {5, of(0, 0)},
		{1099511627776i, of(0, last)}, {1099511627777i, of(0, 0)}, {1099511627776 + 1099511627776i, of(last, last)}, {1099511627775 + 1099511627776i, of(last-1, last)},
		{1099511627776 + 1099511627777i, of(0, 0)}, {1099511627777 + 1099511627777i, of(0, 0)}, {1099511627776 + 1099511627775i, of(0, 0)},
		{-1, of(0, 0)}, {-1 - 1i, of(0, 0)}, {-1 + 9i, of(0, 0)}, {-1i, of(0, 0)}, {-9 - 3i, of(0, 0)}, {3 - 9i, of(0, 0)},
	} {
		if got := span.Of(c.c); got != c.want {
			t.Errorf("%v: %v", c.c, got)
		}
	}
	less := math.Copysign(0, -1)
	for _, c := range []complex128{complex(less, 0), complex(0, less), complex(less, less)} {
		if got := span.Of(c); got != of(0, 0) {
			t.Errorf("%v: %v", c, got)
		}
	}
	if got := span.Of(complex(less, 9)); got != of(0, 9) {
		t.Errorf("-0 to 9: %v", got)
	}
}

// oddParts are no times: not whole, below 0, beyond the last second, or no numbers.
func oddParts() []float64 {
	return []float64{
		0.5, 1.5, -0.5, -1.5, 0.1, 2.999999999, 3.0000000001, 8.5, 9.5, math.Nextafter(0, 1), math.Nextafter(0, -1), math.Nextafter(3, 0), math.Nextafter(3, 9), math.Nextafter(1, 0), math.Nextafter(9, 10), math.Nextafter(9, 8),
		math.SmallestNonzeroFloat64, last - 0.5, last + 0.5, math.Nextafter(last, 0), math.Nextafter(last, math.Inf(1)),
		-1, -2, -3, -9, -last, -last - 1, -1 << 53, -1 << 63, -1 << 64, -1e300, -math.MaxFloat64,
		last + 1, last + 2, last + 3, 2 * last, 1<<53 - 1, 1 << 53, 1<<53 + 2, 1 << 62, 1 << 63, 1<<63 + 1<<11, 1<<63 + 3<<11, 1 << 64, 1<<64 + 1<<12, 1<<64 + 3<<12, 1 << 65, 1e300, math.MaxFloat64,
		math.Inf(1), math.Inf(-1), math.NaN(), -math.NaN(),
	}
}

func TestOfOddParts(t *testing.T) {
	for _, x := range oddParts() {
		for _, y := range append(oddParts(), 0, 1, 3, 9, last-1, last) {
			for _, c := range []complex128{complex(x, y), complex(y, x)} {
				if got := span.Of(c); got != of(0, 0) {
					t.Errorf("%v: %v", c, got)
				}
			}
		}
	}
}

// TestOfByChance: what is answered for a pair of whole numbers is that pair, if it may be a span, and never for others.
func TestOfByChance(t *testing.T) {
	r := rand.New(rand.NewSource(2))
	for range 100000 {
		s := byChance(r)
		want := api.Span{}
		if mayBe(s) {
			want = s
		}
		c := complex(float64(s.From), float64(s.To))
		if got := span.Of(c); got != want {
			t.Fatalf("%v: %v", c, got)
		}
		part := float64(1+r.Intn(1023)) / 1024
		for _, odd := range []complex128{c + complex(part, 0), c + complex(0, part), c + complex(part, part)} {
			if got := span.Of(odd); got != of(0, 0) {
				t.Fatalf("%v: %v", odd, got)
			}
		}
	}
}

// byChance is a span by chance, valid or just not: of small times, of great ones, and of both.
func byChance(r *rand.Rand) api.Span {
	n := func() int {
		switch r.Intn(4) {
		case 0:
			return r.Intn(14) - 2
		case 1:
			return last - 10 + r.Intn(13)
		}
		return int(r.Int63n(last))
	}
	s := of(n(), n())
	if r.Intn(4) > 0 && s.To < s.From {
		s = of(s.To, s.From)
	}
	return s
}
