package where_test

import (
	"math"
	"math/cmplx"
	"math/rand"
	"slices"
	"testing"

	"mahout/where"
)

// nowhere are complex numbers that are no places.
func nowhere() []complex128 {
	nan, inf := math.NaN(), math.Inf(1)
	parts := []float64{nan, inf, -inf, 0.5, -0.5, 1001, -1001, 1000.5, -1000.5, 999.9999999999999, math.SmallestNonzeroFloat64, math.MaxFloat64, -math.MaxFloat64, 1 << 53}
	list := []complex128{cmplx.Inf(), cmplx.NaN()}
	for _, p := range parts {
		list = append(list, complex(p, 0), complex(0, p), complex(p, p), complex(1000, p), complex(p, -7))
	}
	return list
}

// somewhere are places: the edges, and noughts with the sign.
func somewhere() []complex128 {
	minus := math.Copysign(0, -1)
	var list []complex128
	for _, x := range []float64{minus, 0, 1, -1, 7, 999, -999, 1000, -1000} {
		for _, y := range []float64{minus, 0, 2, -2, 1000, -1000} {
			list = append(list, complex(x, y))
		}
	}
	return list
}

// square is the square of the distance, by whole numbers.
func square(a, b complex128) int {
	x, y := int(real(a))-int(real(b)), int(imag(a))-int(imag(b))
	return x*x + y*y
}

// same: are the two alike to the bit?
func same(a, b complex128) bool {
	bits := func(c complex128) [2]uint64 {
		return [2]uint64{math.Float64bits(real(c)), math.Float64bits(imag(c))}
	}
	return bits(a) == bits(b)
}

// P3.1
func TestSpot(t *testing.T) {
	for _, x := range []int{-1000, -999, -1, 0, 1, 5, 999, 1000} {
		for _, y := range []int{-1000, -3, 0, 1, 1000} {
			if got, ok := where.Spot(x, y); !ok || !same(got, complex(float64(x), float64(y))) {
				t.Errorf("Spot(%d, %d): %v, %v", x, y, got, ok)
			}
		}
	}
}

// P3.1
func TestSpotOfTooMuch(t *testing.T) {
	for _, far := range []int{-1001, 1001, math.MinInt, math.MaxInt, 1 << 32, 1<<32 + 1, -1 << 53} {
		for _, c := range [][2]int{{far, 0}, {0, far}, {far, far}, {1000, far}, {far, -1000}} {
			if got, ok := where.Spot(c[0], c[1]); ok || !same(got, 0) {
				t.Errorf("Spot(%d, %d): %v, %v", c[0], c[1], got, ok)
			}
		}
	}
}

// P3.2
func TestDist(t *testing.T) {
	if got := where.Dist(1+2i, 4-2i); got != 25 {
		t.Errorf("Dist(1+2i, 4-2i): %d", got)
	}
	if got := where.Dist(-1000-1000i, 1000+1000i); got != 8000000 {
		t.Errorf("Dist across the plane: %d", got)
	}
	for _, a := range somewhere() {
		for _, b := range somewhere() {
			if got := where.Dist(a, b); got != square(a, b) {
				t.Errorf("Dist(%v, %v): %d, not %d", a, b, got, square(a, b))
			}
		}
	}
}

// P3.2
func TestDistOfNoPlace(t *testing.T) {
	for _, a := range nowhere() {
		for _, b := range append(somewhere(), nowhere()...) {
			if where.Dist(a, b) != -1 || where.Dist(b, a) != -1 {
				t.Errorf("Dist(%v, %v): %d, %d", a, b, where.Dist(a, b), where.Dist(b, a))
			}
		}
	}
}

// turned is a place turned by whole numbers.
func turned(a complex128, quarters int) complex128 {
	x, y := int(real(a)), int(imag(a))
	for range ((quarters % 4) + 4) % 4 {
		x, y = -y, x
	}
	return complex(float64(x), float64(y))
}

// P3.3
func TestTurn(t *testing.T) {
	if where.Turn(1+2i, 1) != -2+1i || where.Turn(1+2i, -1) != 2-1i {
		t.Errorf("Turn of 1+2i: %v, %v", where.Turn(1+2i, 1), where.Turn(1+2i, -1))
	}
	quarters := []int{math.MinInt, math.MinInt + 1, math.MinInt + 2, math.MinInt + 3, math.MaxInt, math.MaxInt - 1, math.MaxInt - 2, math.MaxInt - 3}
	for q := -9; q <= 9; q++ {
		quarters = append(quarters, q)
	}
	for _, a := range somewhere() {
		for _, q := range quarters {
			if got := where.Turn(a, q); !same(got, turned(a, q)) { // to the bit: a nought with the sign isn't the same
				t.Errorf("Turn(%v, %d): %v, not %v", a, q, got, turned(a, q))
			}
		}
	}
}

// P3.3
func TestTurnOfNoPlace(t *testing.T) {
	for _, a := range nowhere() {
		for q := -4; q <= 4; q++ {
			if got := where.Turn(a, q); !same(got, 0) {
				t.Errorf("Turn(%v, %d): %v", a, q, got)
			}
		}
	}
}

// nearest picks, again and again, the nearest number that is left.
func nearest(from complex128, list []complex128) []int {
	var order []int
	for range list {
		best := -1
		for i, at := range list {
			d := where.Dist(from, at)
			if slices.Contains(order, i) {
				continue
			}
			if best < 0 || d >= 0 && (where.Dist(from, list[best]) < 0 || d < where.Dist(from, list[best])) {
				best = i
			}
		}
		order = append(order, best)
	}
	return order
}

// farthest is the list of Spread as the words tell it: every step looks at all distances anew.
func farthest(from complex128, list []complex128, n int) []int {
	var taken []int
	if where.Dist(from, from) < 0 {
		return nil
	}
	for len(taken) < n {
		best, bestLeast := -1, -1
		for _, i := range nearest(from, list) {
			if where.Dist(list[i], list[i]) < 0 || slices.Contains(taken, i) {
				continue
			}
			least := math.MaxInt
			for _, k := range taken {
				least = min(least, where.Dist(list[i], list[k]))
			}
			if least > bestLeast {
				best, bestLeast = i, least
			}
		}
		if best < 0 {
			break
		}
		taken = append(taken, best)
	}
	return taken
}

// lists are of few places, so that many distances are alike, with some that are none.
func lists(r *rand.Rand, each func(from complex128, list []complex128)) {
	for n := range 300 {
		list := make([]complex128, n%14)
		width := 1 + r.Intn(12)
		some := func() complex128 {
			if r.Intn(8) == 0 {
				return nowhere()[r.Intn(len(nowhere()))]
			}
			return complex(float64(r.Intn(width)-width/2), float64(r.Intn(width)-width/2))
		}
		for i := range list {
			list[i] = some()
		}
		each(some(), list)
	}
}

// P3.4
func TestNear(t *testing.T) {
	if got := where.Near(0, []complex128{3, 1i, 1, 0.5}); !slices.Equal(got, []int{1, 2, 0, 3}) {
		t.Errorf("Near of the example: %v", got)
	}
	lists(rand.New(rand.NewSource(1)), func(from complex128, list []complex128) {
		if got, want := where.Near(from, list), nearest(from, list); !slices.Equal(got, want) {
			t.Errorf("Near(%v, %v): %v, not %v", from, list, got, want)
		}
	})
}

// P3.4
func TestNearOfManyThatAreAlike(t *testing.T) {
	list := make([]complex128, 5000)
	for i := range list {
		list[i] = []complex128{2, 0.5, 2i, -1, 1i}[i%5]
	}
	got := where.Near(0, list)
	want := [3][]int{}
	for i := range list {
		class := []int{1, 2, 1, 0, 0}[i%5]
		want[class] = append(want[class], i)
	}
	if !slices.Equal(got, slices.Concat(want[0], want[1], want[2])) {
		t.Errorf("Near of many: %v ..", got[:20])
	}
}

// P3.4
func TestNearFromNoPlace(t *testing.T) {
	for _, from := range nowhere() {
		if got := where.Near(from, []complex128{5, 0, cmplx.NaN(), 1}); !slices.Equal(got, []int{0, 1, 2, 3}) {
			t.Errorf("Near(%v): %v", from, got)
		}
	}
	if len(where.Near(0, nil)) != 0 || len(where.Near(cmplx.NaN(), nil)) != 0 {
		t.Error("Near of an empty list")
	}
}

// P3.5
func TestSpread(t *testing.T) {
	if got := where.Spread(0, []complex128{1, 2, 10}, 3); !slices.Equal(got, []int{0, 2, 1}) {
		t.Errorf("Spread of the example: %v", got)
	}
	r := rand.New(rand.NewSource(2))
	lists(r, func(from complex128, list []complex128) {
		for _, n := range []int{1, 2, 3, len(list) - 1, len(list), len(list) + 1, math.MaxInt} {
			if got, want := where.Spread(from, list, n), farthest(from, list, n); !slices.Equal(got, want) {
				t.Errorf("Spread(%v, %v, %d): %v, not %v", from, list, n, got, want)
			}
		}
	})
}

// P3.5: places at the edges are told apart as the others are, and one that stands twice is taken twice.
func TestSpreadAcrossThePlane(t *testing.T) {
	list := []complex128{-1000 - 1000i, 1000 + 1000i, -1000 - 1000i, 1001, 1000 - 1000i}
	if got := where.Spread(-1000-1000i, list, 9); !slices.Equal(got, []int{0, 1, 4, 2}) {
		t.Errorf("Spread: %v", got)
	}
	if got := where.Spread(0, []complex128{7, 7, 7}, 2); !slices.Equal(got, []int{0, 1}) {
		t.Errorf("Spread of one place thrice: %v", got)
	}
}

// P3.5: where two are alike the one that is nearer stands first, not the one with the smaller number.
func TestSpreadOfWhatIsAlike(t *testing.T) {
	if got := where.Spread(1, []complex128{-3, 3, 0}, 2); !slices.Equal(got, []int{2, 1}) {
		t.Errorf("Spread: %v", got)
	}
}

// P3.5
func TestSpreadOfNone(t *testing.T) {
	list := []complex128{1, 2, 10}
	for _, n := range []int{0, -1, math.MinInt} {
		if got := where.Spread(0, list, n); len(got) != 0 {
			t.Errorf("Spread of %d: %v", n, got)
		}
	}
	for _, from := range nowhere() {
		if got := where.Spread(from, list, 2); len(got) != 0 {
			t.Errorf("Spread(%v): %v", from, got)
		}
	}
	if len(where.Spread(0, nil, 3)) != 0 || len(where.Spread(0, nowhere(), 3)) != 0 {
		t.Error("Spread of no places")
	}
}

// P3.4, P3.5: what is handed in isn't changed, and an answer is new memory.
func TestListsAreLeftAlone(t *testing.T) {
	all := []complex128{5, 1, 3, 0.5, 2}
	list, before := all[:4], slices.Clone(all)
	near, spread := where.Near(0, list), where.Spread(0, list, 3)
	for i := range near {
		near[i] = 77
	}
	spread[0] = 77
	if !slices.Equal(all, before) {
		t.Errorf("the list is %v now", all)
	}
	if got := where.Near(0, list); !slices.Equal(got, []int{1, 2, 0, 3}) {
		t.Errorf("Near, a second time: %v", got)
	}
	if got := where.Spread(0, list, 3); !slices.Equal(got, []int{1, 0, 2}) {
		t.Errorf("Spread, a second time: %v", got)
	}
}
