package plan_test

import (
	"math"
	"math/cmplx"
	"math/rand"
	"slices"
	"testing"

	"mahout/plan"
)

func task(holders ...complex128) plan.Task {
	return plan.Task{Holders: holders}
}

// tasks: each with one holder.
func tasks(holders ...complex128) []plan.Task {
	var list []plan.Task
	for i, holder := range holders {
		list = append(list, plan.Task{ID: 100 - i, Holders: []complex128{holder}})
	}
	return list
}

// nowhere are complex numbers that are no places.
func nowhere() []complex128 {
	nan, inf := math.NaN(), math.Inf(1)
	return []complex128{
		cmplx.NaN(), cmplx.Inf(), complex(nan, 0), complex(0, nan), complex(-inf, 0), complex(0, inf),
		0.5, 0.5i, 1 - 0.25i, 1001, -1001, 1001i, -1001i, 1000 + 1001i, 1000.0000001, complex(math.MaxFloat64, 0), math.SmallestNonzeroFloat64,
	}
}

func wantFar(t *testing.T, task plan.Task, at complex128, want int) {
	t.Helper()
	if got := plan.Far(task, at); got != want {
		t.Errorf("Far(%v, %v): %d, not %d", task, at, got, want)
	}
}

func wantPick(t *testing.T, tasks []plan.Task, at complex128, want int) {
	t.Helper()
	if got := plan.Pick(tasks, at); got != want {
		t.Errorf("Pick(%v, %v): %d, not %d", tasks, at, got, want)
	}
}

func wantShare(t *testing.T, tasks []plan.Task, workers []complex128, want ...int) {
	t.Helper()
	if got := plan.Share(tasks, workers); !slices.Equal(got, want) {
		t.Errorf("Share(%v, %v): %d, not %d", tasks, workers, got, want)
	}
}

// The chapter's example.
func TestExample(t *testing.T) {
	list := []plan.Task{task(5), task(1, 9), task()}
	wantPick(t, list, 8, 1)
	wantFar(t, list[1], 8, 1)
	wantShare(t, list, []complex128{0, 0}, 1, 0)
}

// P23.1: the least distance to a holder, wherever it stands in the list.
func TestFar(t *testing.T) {
	wantFar(t, task(4-2i), 1+2i, 25)
	wantFar(t, task(1+2i), 1+2i, 0)
	for _, holders := range [][]complex128{{3i, 7, 9}, {7, 3i, 9}, {9, 7, 3i}, {3i, 3i, 7}} {
		wantFar(t, task(holders...), 0, 9)
		wantFar(t, task(holders...), 3i, 0)
	}
	wantFar(t, task(-3, 2), 0, 4)
	wantFar(t, task(-1000-1000i), 1000+1000i, 8000000)
	wantFar(t, task(complex(math.Copysign(0, -1), 0)), 0, 0)
}

// P23.1: what is no place is left out.
func TestFarOfNoPlace(t *testing.T) {
	wantFar(t, task(), 0, -1)
	wantFar(t, plan.Task{ID: 7, Holders: []complex128{}}, 0, -1)
	wantFar(t, task(nowhere()...), 0, -1)
	wantFar(t, task(append(nowhere(), 2, 0.5)...), 0, 4)
	for _, none := range nowhere() {
		wantFar(t, task(none), 0, -1)
		wantFar(t, task(none), none, -1)
		wantFar(t, task(1, 2), none, -1)
		wantFar(t, task(none, 5), 0, 25)
		wantFar(t, task(5, none), 0, 25)
		wantFar(t, task(none, 5, none, 4), 1, 9)
	}
}

// P23.2: the nearest task, the first one of those that are alike.
func TestPick(t *testing.T) {
	wantPick(t, tasks(3, 2, 1), 0, 2)
	wantPick(t, tasks(1, 2, 3), 0, 0)
	wantPick(t, tasks(3, 1, 2), 0, 1)
	wantPick(t, tasks(3, 1, 2), 10, 0)
	wantPick(t, tasks(2, 1, -1, 1i, 2), 0, 1)
	wantPick(t, tasks(5, 5, 5), 5, 0)
	wantPick(t, []plan.Task{task(1, 9), task(9, 1), task(1)}, 0, 0)
	wantPick(t, []plan.Task{task(4), task(100, 3), task(8, -2i, 9)}, 0, 2)
	wantPick(t, tasks(7), -1000, 0)
}

// P23.2: a task without data is behind all that have some, however far; where none has, the first one is picked.
func TestPickOfNoPlace(t *testing.T) {
	far := 1000 + 1000i
	wantPick(t, []plan.Task{task(), task(far)}, -far, 1)
	wantPick(t, []plan.Task{task(far), task()}, -far, 0)
	wantPick(t, []plan.Task{task(), task(), task(far), task(), task(far)}, -far, 2)
	wantPick(t, []plan.Task{task(), task(0), task()}, 0, 1)
	wantPick(t, []plan.Task{task(), task(), task()}, 0, 0)
	for _, none := range nowhere() {
		wantPick(t, tasks(3, 2, 1), none, 0)
		wantPick(t, tasks(none, none), 0, 0)
		wantPick(t, tasks(none, 3, none, 2), 0, 3)
		wantPick(t, tasks(none, 3, none, 3), 0, 1)
		wantPick(t, nil, none, -1)
	}
	wantPick(t, nil, 0, -1)
	wantPick(t, []plan.Task{}, 0, -1)
}

// P23.2, P23.3: the place in the list is told, whatever the tasks' IDs.
func TestIDsDoNotCount(t *testing.T) {
	list := []plan.Task{{ID: 9, Holders: []complex128{3}}, {ID: -1, Holders: []complex128{1}}, {ID: 9}, {ID: math.MinInt, Holders: []complex128{2}}}
	wantPick(t, list, 0, 1)
	wantShare(t, list, []complex128{0, 0, 0, 0, 0}, 1, 3, 0, 2, -1)
}

// P23.3
func TestShare(t *testing.T) {
	wantShare(t, tasks(0, 10, 20), []complex128{20, 10, 0}, 2, 1, 0)
	wantShare(t, tasks(0, 10, 20), []complex128{0, 0, 0}, 0, 1, 2)
	wantShare(t, tasks(0, 10, 20), []complex128{20, 20, 20}, 2, 1, 0)
	wantShare(t, tasks(0, 10, 20), []complex128{11, 11}, 1, 2)
	wantShare(t, tasks(0, 0, 0, 0), []complex128{0, 5, -5}, 0, 1, 2) // of those alike the first that is left
	wantShare(t, []plan.Task{task(), task(9), task(), task(8)}, []complex128{0, 0, 0, 0}, 3, 1, 0, 2)
	wantShare(t, tasks(1, 2, 3, 4, 5), []complex128{0.5, 5, 0.5, 5, 0.5}, 0, 4, 1, 3, 2)
	wantShare(t, []plan.Task{task(1, 30), task(30, 2)}, []complex128{0, 30}, 0, 1)
}

// P23.3: the list is as long as that of the workers, also where there are more of them than tasks, or none.
func TestShareOfTooFew(t *testing.T) {
	wantShare(t, nil, nil)
	wantShare(t, []plan.Task{}, []complex128{})
	wantShare(t, tasks(1, 2), nil)
	wantShare(t, nil, []complex128{1, 2, 0.5}, -1, -1, -1)
	wantShare(t, tasks(7), []complex128{1, 7, 7}, 0, -1, -1)
	wantShare(t, []plan.Task{task()}, []complex128{0.5, 0.5}, 0, -1)
	wantShare(t, tasks(1, 2), []complex128{2, 2, 2, 2}, 1, 0, -1, -1)
}

// P23.3: what is handed in stays, the room behind a list's length included, and an answer is new memory.
func TestHandedInStays(t *testing.T) {
	holders := []complex128{9, 1, 5, 7}
	made := func() []plan.Task {
		return []plan.Task{{ID: 1, Holders: holders[:3]}, {ID: 2, Holders: holders[1:2]}, {ID: 3}, {ID: 4, Holders: holders[:1]}}
	}
	whole := made()
	workers := []complex128{0, 1, 2, 9, 8}
	same := func(a, b plan.Task) bool { return a.ID == b.ID && slices.Equal(a.Holders, b.Holders) }
	first := plan.Share(whole[:3], workers[:4])
	for range 2 {
		wantShare(t, whole[:3], workers[:4], 0, 1, 2, -1)
		wantPick(t, whole[:3], 9, 0)
		wantFar(t, whole[0], 8, 1)
		first[0], first[1] = 77, 77
		_ = append(first, 77)
	}
	if !slices.EqualFunc(whole, made(), same) || !slices.Equal(holders, []complex128{9, 1, 5, 7}) || !slices.Equal(workers, []complex128{0, 1, 2, 9, 8}) {
		t.Errorf("what was handed in: %v, %v, %v", whole, holders, workers)
	}
}

// dist: the distance by whole numbers, and is there one?
func dist(a, b complex128) (int, bool) {
	ax, ay, bx, by := int(real(a)), int(imag(a)), int(real(b)), int(imag(b))
	if complex(float64(ax), float64(ay)) != a || complex(float64(bx), float64(by)) != b {
		return 0, false
	}
	return (ax-bx)*(ax-bx) + (ay-by)*(ay-by), true
}

// sharedOut is Share as the words tell it: for each worker all tasks that aren't taken are gone through.
func sharedOut(list []plan.Task, workers []complex128) []int {
	var shares []int
	for _, at := range workers {
		best, least, any := -1, math.MaxInt, -1
		for i, t := range list {
			if slices.Contains(shares, i) {
				continue
			}
			if any < 0 {
				any = i
			}
			for _, holder := range t.Holders {
				if d, ok := dist(at, holder); ok && d < least {
					best, least = i, d
				}
			}
		}
		if best < 0 {
			best = any
		}
		shares = append(shares, best)
	}
	return shares
}

// P23.1 to P23.3: any tasks and workers, in a small plane, so that many are alike.
func TestAgainstTheModel(t *testing.T) {
	r := rand.New(rand.NewSource(23))
	place := func() complex128 {
		if r.Intn(6) == 0 {
			return 0.5
		}
		return complex(float64(r.Intn(4)), float64(r.Intn(3)))
	}
	for range 3000 {
		var list []plan.Task
		for range r.Intn(8) {
			one := plan.Task{ID: r.Intn(5)}
			for range r.Intn(4) {
				one.Holders = append(one.Holders, place())
			}
			list = append(list, one)
		}
		var workers []complex128
		for range r.Intn(9) {
			workers = append(workers, place())
		}
		want := sharedOut(list, workers)
		wantShare(t, list, workers, want...)
		for _, at := range workers {
			wantPick(t, list, at, sharedOut(list, []complex128{at})[0])
		}
	}
}

// P1: long lists are shared out too.
func TestMany(t *testing.T) {
	var list []plan.Task
	var workers []complex128
	for i := range 2000 {
		list = append(list, task(complex(float64(i-1000), 0), complex(0, 1000)))
		workers = append(workers, complex(float64(1000-i), 0))
	}
	shares := plan.Share(list, workers)
	for w, i := range shares {
		if i != 1999-w {
			t.Fatalf("Share of many: worker %d takes %d", w, i)
		}
	}
	if len(shares) != 2000 {
		t.Errorf("Share of many: %d", len(shares))
	}
}
