package tests

import (
	"math"
	"slices"
	"testing"

	"loop.example/drydock/impl"
)

// checkLeast asks CostLeast for just this, and that this plan moves just as much.
func checkLeast(t *testing.T, r impl.Repo, from, to []int, want int, plan ...impl.Step) {
	t.Helper()
	if got := impl.CostLeast(r, from, to); got != want {
		t.Errorf("%v: from %v to %v %d must be moved, not %d", r, from, to, got, want)
	}
	if !impl.PlanOk(r, from, to, plan) || impl.CostPlan(r, plan) != want {
		t.Errorf("%v: from %v to %v %v is no plan, or moves %d, not %d", r, from, to, plan, impl.CostPlan(r, plan), want)
	}
}

// checkNoLeast asks CostLeast for -1.
func checkNoLeast(t *testing.T, r impl.Repo, from, to []int) {
	t.Helper()
	if got := impl.CostLeast(r, from, to); got != -1 {
		t.Errorf("%v: from %v to %v %d must be moved", r, brief(from), brief(to), got)
	}
}

func TestCostOfEachKind(t *testing.T) {
	r := dockOf(t, "room 5\npack a 1 3\npre z 1 1\npack a 2 40\npack b 1 0\npack b 7 999\nban a 0 99\n")
	for _, c := range []struct {
		s    impl.Step
		want int
	}{
		{put(0), 3}, {put(1), 40}, {put(2), 0}, {put(3), 999},
		{take(0), 3}, {take(1), 40}, {take(2), 0}, {take(3), 999},
		{swap(0, 1), 43}, {swap(1, 0), 43}, {swap(2, 3), 999}, {swap(3, 2), 999},
		// Packs of two names, or one pack.
		{swap(0, 2), -1}, {swap(2, 0), -1}, {swap(1, 2), -1}, {swap(3, 0), -1}, {swap(0, 0), -1}, {swap(2, 2), -1}, {swap(3, 3), -1},
		// Kinds that there are not.
		{impl.Step{}, -1}, {impl.Step{Kind: 0, In: 1}, -1}, {impl.Step{Kind: 0, Out: 1}, -1}, {impl.Step{Kind: -1}, -1}, {impl.Step{Kind: 4}, -1}, {impl.Step{Kind: 4, In: 1}, -1},
		{impl.Step{Kind: math.MaxInt, In: 1}, -1}, {impl.Step{Kind: math.MinInt, In: 1}, -1}, {impl.Step{Kind: 1 + 1<<32, In: 1}, -1},
		// Places that there are not.
		{put(-1), -1}, {put(4), -1}, {put(math.MaxInt), -1}, {put(math.MinInt), -1}, {take(-1), -1}, {take(4), -1}, {take(math.MaxInt), -1}, {take(math.MinInt), -1},
		{swap(0, 4), -1}, {swap(4, 0), -1}, {swap(-1, 0), -1}, {swap(0, -1), -1}, {swap(4, 5), -1}, {swap(-1, -2), -1}, {swap(math.MaxInt, 0), -1}, {swap(0, math.MinInt), -1},
		// Fields that the kind does not say.
		{impl.Step{Kind: impl.StepPut, In: 1, Out: 1}, -1}, {impl.Step{Kind: impl.StepPut, In: 0, Out: 1}, -1}, {impl.Step{Kind: impl.StepPut, In: 1, Out: -1}, -1}, {impl.Step{Kind: impl.StepPut, In: 1, Out: 9}, -1},
		{impl.Step{Kind: impl.StepTake, In: 1, Out: 1}, -1}, {impl.Step{Kind: impl.StepTake, In: 1}, -1}, {impl.Step{Kind: impl.StepTake, In: -1, Out: 1}, -1}, {impl.Step{Kind: impl.StepTake, In: 9, Out: 1}, -1},
	} {
		if got := impl.CostOf(r, c.s); got != c.want {
			t.Errorf("%v moves %d, not %d", c.s, got, c.want)
		}
		if got := impl.CostPlan(r, []impl.Step{c.s}); got != c.want {
			t.Errorf("%v alone moves %d, not %d", c.s, got, c.want)
		}
	}
}

func TestCostOfPlanMaxSteps(t *testing.T) {
	r := dockOf(t, "room 999\npack a 1 999\npack a 2 999\npack b 1 1\npack c 1 0\n")
	same := func(s impl.Step, n int) []impl.Step {
		return slices.Repeat([]impl.Step{s}, n)
	}
	for _, c := range []struct {
		steps []impl.Step
		want  int
	}{
		{nil, 0}, {[]impl.Step{}, 0},
		{same(put(2), 1), 1}, {same(put(2), impl.PlanMax-1), impl.PlanMax - 1}, {same(put(2), impl.PlanMax), impl.PlanMax},
		{same(put(2), impl.PlanMax+1), -1}, {same(put(2), impl.PlanMax+2), -1}, {same(put(2), 100000), -1},
		{same(put(3), impl.PlanMax), 0}, {same(put(3), impl.PlanMax+1), -1}, {same(take(3), 1), 0},
		{same(swap(0, 1), impl.PlanMax), 2 * 999 * 300}, {same(swap(0, 1), impl.PlanMax+1), -1},
		{toAndFro(2, impl.PlanMax), impl.PlanMax}, {toAndFro(2, impl.PlanMax+1), -1},
		{same(impl.Step{}, impl.PlanMax), -1}, {same(impl.Step{}, impl.PlanMax+1), -1},
	} {
		if got := impl.CostPlan(r, c.steps); got != c.want {
			t.Errorf("%d steps, first %v, move %d, not %d", len(c.steps), brief(c.steps)[:min(len(c.steps), 1)], got, c.want)
		}
	}
	// The last one counts as much as the first, and one that is none is found anywhere.
	for _, n := range []int{1, 2, 3, impl.PlanMax - 1, impl.PlanMax} {
		for _, place := range []int{0, n / 2, n - 1} {
			steps := same(put(2), n)
			steps[place] = put(0)
			if got := impl.CostPlan(r, steps); got != n-1+999 {
				t.Errorf("%d steps, a heavy one at %d, move %d", n, place, got)
			}
			for _, wrong := range wrongSteps(len(r.Packs)) {
				steps[place] = wrong
				if got := impl.CostPlan(r, steps); got != -1 {
					t.Errorf("%d steps, %v at %d, move %d", n, wrong, place, got)
				}
			}
		}
	}
	// Each part is short enough, but not the whole.
	long := same(put(2), impl.PlanMax+1)
	if impl.CostPlan(r, long[1:]) != impl.PlanMax || impl.CostPlan(r, long[:1]) != 1 || impl.CostPlan(r, long) != -1 {
		t.Error("one step more than PlanMax")
	}
}

func TestALongerPlanThatMovesLess(t *testing.T) {
	// b needs an a, or c: there is no room to swap beside b. By way of c four steps move little, to take b out three move much.
	stays := dockOf(t, "room 8\npack a 1 2\npack a 2 2\npack b 1 5\ndep a 1 2 c 1 1\npack c 1 1\n")
	checkFind(t, stays, []int{0, 2}, []int{1, 2}, take(2), swap(0, 1), put(2))
	checkLeast(t, stays, []int{0, 2}, []int{1, 2}, 6, put(3), take(0), put(1), take(3))
	checkLeast(t, withRoom(stays, 9), []int{0, 2}, []int{1, 2}, 4, swap(0, 1))
	checkLeast(t, withRoom(stays, 7), []int{0, 2}, []int{1, 2}, 14, take(2), swap(0, 1), put(2))
	// What must be there ahead is heavy, or light but needs another one, which needs another one.
	ahead := dockOf(t, "room 60\npack a 1 1\npre b 1 2\npack b 1 50\npack b 2 1\ndep c 1 1\npack c 1 1\ndep d 1 1\npack d 1 1\n")
	checkFind(t, ahead, nil, []int{0}, put(1), put(0), take(1))
	checkLeast(t, ahead, nil, []int{0}, 7, put(4), put(3), put(2), put(0), take(2), take(3), take(4))
	checkLeast(t, ahead, []int{0}, nil, 1, take(0))
	checkLeast(t, ahead, nil, []int{0, 1}, 51, put(1), put(0))
	checkLeast(t, ahead, []int{1}, []int{0}, 51, put(0), take(1))
	heavy := dockOf(t, "room 60\npack a 1 1\npre b 1 2\npack b 1 50\npack b 2 20\ndep c 1 1\npack c 1 15\ndep d 1 1\npack d 1 15\n")
	checkLeast(t, heavy, nil, []int{0}, 101, put(4), put(3), put(2), put(0), take(2), take(3), take(4))
	heavy.Packs[4].Size = 16
	checkLeast(t, heavy, nil, []int{0}, 101, put(1), put(0), take(1))
	// Many steps of packs that need no room move nothing, one step moves something.
	free := dockOf(t, "room 9\npack a 1 0\npre b 1 2\npack b 1 1\npack b 2 0\ndep c 1 1\npack c 1 0\ndep d 1 1\npack d 1 0\n")
	checkFind(t, free, nil, []int{0}, put(1), put(0), take(1))
	checkLeast(t, free, nil, []int{0}, 0, put(4), put(3), put(2), put(0), take(2), take(3), take(4))
	// The first step of the least is the heaviest of all that lead away.
	first := dockOf(t, "room 99\npack a 1 1\npre b 1 2\npack b 1 9\ndep c 1 1\npack b 2 10\npack c 1 3\n")
	checkLeast(t, first, nil, []int{0}, 21, put(2), put(0), take(2))
	checkLeast(t, first, []int{3}, []int{0, 3}, 19, put(1), put(0), take(1))
}

func TestWaysThatMoveTheSame(t *testing.T) {
	two := dockOf(t, "room 9\npack a 1 2\npack a 2 3\npack b 1 1\npack c 1 4\npre a 1 1 b 1 1\n")
	checkLeast(t, two, []int{0}, []int{1}, 5, swap(0, 1))
	checkLeast(t, two, []int{0}, []int{1}, 5, take(0), put(1))
	checkLeast(t, two, []int{0}, []int{1, 2}, 6, put(2), swap(0, 1))
	checkLeast(t, two, []int{0}, []int{1, 2}, 6, take(0), put(1), put(2))
	checkLeast(t, two, nil, []int{0, 2}, 3, put(0), put(2))
	checkLeast(t, two, nil, []int{0, 2}, 3, put(2), put(0))
	either := dockOf(t, "room 9\npack a 1 1\npre b 1 2\npack b 1 2\npack b 2 2\n")
	checkLeast(t, either, nil, []int{0}, 5, put(1), put(0), take(1))
	checkLeast(t, either, nil, []int{0}, 5, put(2), put(0), take(2))
	// One heavy pack put in and taken out, or two that are half as heavy.
	half := dockOf(t, "room 9\npack a 1 1\npre b 1 2\npack b 1 4\npack b 2 2\ndep c 1 1\npack c 1 2\n")
	checkLeast(t, half, nil, []int{0}, 9, put(1), put(0), take(1))
	checkLeast(t, half, nil, []int{0}, 9, put(3), put(2), put(0), take(2), take(3))
}

func TestPacksThatNeedNoRoom(t *testing.T) {
	zero := dockOf(t, "room 0\npack a 1 0\npack a 2 0\npack b 1 0\ndep a 2 2\npack c 1 1\n")
	for _, set := range impl.StateList(zero) {
		checkLeast(t, zero, set, set, 0)
		if got := impl.CostLeast(zero, nil, set); got != 0 {
			t.Errorf("to %v %d must be moved", set, got)
		}
		checkNoLeast(t, zero, set, []int{3})
	}
	checkLeast(t, zero, []int{0}, []int{1, 2}, 0, swap(0, 1), put(2))
	if got := impl.CostPlan(zero, []impl.Step{put(0), put(0), take(1), swap(1, 0)}); got != 0 {
		t.Errorf("what needs no room moves %d", got)
	}
}

func TestLeastToWhatCannotBeComeTo(t *testing.T) {
	both := dockOf(t, "room 9\npack a 1 1\ndep b 1 1\npack b 1 1\ndep a 1 1\n")
	checkNoLeast(t, both, nil, []int{0, 1})
	checkNoLeast(t, both, []int{0, 1}, nil)
	checkLeast(t, both, []int{0, 1}, []int{0, 1}, 0)
	checkLeast(t, both, nil, nil, 0)
	out := dockOf(t, "room 9\npack a 1 4\npre c 1 1\npack b 1 2\n")
	checkNoLeast(t, out, nil, []int{0})
	checkNoLeast(t, out, []int{1}, []int{0, 1})
	checkLeast(t, out, []int{0}, nil, 4, take(0))
	checkLeast(t, out, []int{0}, []int{1}, 6, put(1), take(0))
	checkLeast(t, out, []int{0, 1}, nil, 6, take(1), take(0))
	full := dockOf(t, "room 2\npack a 1 1\ndep b 1 2\npack b 1 1\npack b 2 1\npre a 1 1\n")
	checkNoLeast(t, full, []int{0, 1}, []int{0, 2})
	checkLeast(t, withRoom(full, 3), []int{0, 1}, []int{0, 2}, 2, swap(1, 2))
	checkLeast(t, full, []int{0, 2}, []int{0, 1}, 4, take(0), swap(2, 1), put(0))
	checkLeast(t, full, []int{0, 2}, []int{0, 1}, 4, take(0), take(2), put(1), put(0))
}

func TestLeastFromAndToNoPack(t *testing.T) {
	for _, r := range []impl.Repo{{}, {Room: impl.RepoMaxSize}, {Packs: []impl.Pack{}}} {
		checkLeast(t, r, nil, nil, 0)
		checkLeast(t, r, []int{}, nil, 0)
		checkLeast(t, r, nil, []int{}, 0)
		checkNoLeast(t, r, nil, []int{0})
		checkNoLeast(t, r, []int{0}, nil)
		checkNoLeast(t, r, []int{0}, []int{0})
		for _, s := range append(wrongSteps(0), put(0), take(0), swap(0, 1)) {
			if impl.CostOf(r, s) != -1 || impl.CostPlan(r, []impl.Step{s}) != -1 {
				t.Errorf("%v of no packs moves something", s)
			}
		}
		if impl.CostPlan(r, nil) != 0 || impl.CostPlan(r, []impl.Step{}) != 0 {
			t.Error("no step of no packs moves something")
		}
	}
	app := dockOf(t, "room 10\npack app 1 3\ndep lib 1 1\npack lib 1 2\n")
	checkLeast(t, app, nil, []int{0, 1}, 5, put(1), put(0))
	checkLeast(t, app, []int{0, 1}, nil, 5, take(0), take(1))
	checkLeast(t, app, []int{}, []int{1}, 2, put(1))
}

func TestLeastOfFullDocks(t *testing.T) {
	eight := ofNames("a", "b", "c", "d", "e", "f", "g", "h")
	eight.Room = 255
	var puts, takes []impl.Step
	for i := range eight.Packs {
		eight.Packs[i].Size = 1 << i
		puts = append(puts, put(i))
		takes = append(takes, take(i))
	}
	all := setOf(255)
	checkLeast(t, eight, nil, all, 255, puts...)
	checkLeast(t, eight, all, nil, 255, takes...)
	for from := range 256 {
		to := from * 97 % 256
		if got := impl.CostLeast(eight, setOf(from), setOf(to)); got != from^to {
			t.Errorf("from %v to %v %d must be moved", setOf(from), setOf(to), got)
		}
	}
	checkLeast(t, eight, []int{0, 7}, []int{1, 7}, 3, put(1), take(0))
	one := impl.Repo{Packs: manyPacks(impl.RepoMax), Room: 7}
	checkLeast(t, one, []int{7}, []int{6}, 13, take(7), put(6))
	checkLeast(t, withRoom(one, 13), []int{7}, []int{6}, 13, swap(7, 6))
	checkLeast(t, one, []int{0}, []int{5}, 5, swap(0, 5))
	big := ofNames("a", "b", "c", "d", "e", "f", "g", "h")
	big.Room = impl.RepoMaxSize
	for i := range big.Packs {
		big.Packs[i].Size = impl.RepoMaxSize
	}
	checkLeast(t, big, []int{0}, []int{7}, 2*999, take(0), put(7))
	checkNoLeast(t, big, nil, []int{0, 7})
	checkNoLeast(t, withRoom(big, 998), nil, []int{0})
}

func TestLeastOfLongPlans(t *testing.T) {
	for i, c := range []struct{ from, to []int }{{[]int{7}, []int{2, 4, 6}}, {[]int{1, 3, 6}, []int{0, 3, 5}}} {
		r := longDocks()[i]
		plan, _ := impl.PlanFind(r, c.from, c.to)
		ways := chartOf(r).leastWays(bitsOf(c.from))
		least := impl.CostLeast(r, c.from, c.to)
		if len(plan) < 20 || least != ways[bitsOf(c.to)].moved || least > impl.CostPlan(r, plan) {
			t.Errorf("%v: from %v to %v %d must be moved", r, c.from, c.to, least)
		}
	}
}

func TestLeastOfWrongStates(t *testing.T) {
	eachWrongState(func(c chart, ok, set []int) {
		checkNoLeast(t, c.r, set, nil)
		checkNoLeast(t, c.r, set, ok)
		checkNoLeast(t, c.r, nil, set)
		checkNoLeast(t, c.r, ok, set)
		checkNoLeast(t, c.r, set, set)
		if t.Failed() {
			t.FailNow()
		}
	})
	// Also where a step would lead to what is not healthy, or from there to what is.
	r := dockOf(t, "room 2\npack a 1 2\npack b 1 1\ndep c 1 1\npack c 1 0\n")
	checkNoLeast(t, r, []int{0, 1, 2}, []int{1, 2})
	checkNoLeast(t, r, []int{1, 2}, []int{0, 1, 2})
	checkNoLeast(t, r, []int{1}, []int{1, 2})
	checkNoLeast(t, r, []int{1}, []int{1})
	checkLeast(t, r, []int{1, 2}, []int{2}, 1, take(1))
	// In form is in order, each once.
	two := ofNames("a", "b")
	checkLeast(t, two, nil, []int{0, 1}, 0, put(0), put(1))
	for _, set := range [][]int{{1, 0}, {0, 0}, {0, 1, 1}, {0, 1, 2}, {-1, 0}} {
		checkNoLeast(t, two, nil, set)
		checkNoLeast(t, two, set, nil)
	}
}

func TestCostOfBadPacks(t *testing.T) {
	for _, r := range badRepos() {
		for _, s := range append(wrongSteps(len(r.Packs)), put(0), put(1), take(0), take(1), swap(0, 1), swap(1, 0)) {
			if got := impl.CostOf(r, s); got != -1 {
				t.Errorf("%v: %v moves %d", r, s, got)
			}
			if got := impl.CostPlan(r, []impl.Step{s}); got != -1 {
				t.Errorf("%v: %v alone moves %d", r, s, got)
			}
		}
		// Also no step at all.
		if impl.CostPlan(r, nil) != -1 || impl.CostPlan(r, []impl.Step{}) != -1 || impl.CostPlan(r, toAndFro(0, 2)) != -1 {
			t.Errorf("%v: steps move something", r)
		}
		for _, set := range [][]int{nil, {}, {0}, {1}, {0, 1}, {-1}, {9}} {
			checkNoLeast(t, r, set, nil)
			checkNoLeast(t, r, nil, set)
			checkNoLeast(t, r, set, set)
		}
	}
}

func TestCostWritesNothing(t *testing.T) {
	for _, list := range errands() {
		c, whole := roomy(list[0].c.r)
		before := whole()
		for _, e := range list[:min(len(list), 12)] {
			from := append(setOf(e.from), 0, 1, -5)
			to := append(setOf(e.to), 0, 1, -5)
			steps := append(slices.Clone(e.plan), put(0), impl.Step{Kind: -5})
			keptFrom, keptTo, kept := slices.Clone(from), slices.Clone(to), slices.Clone(steps)
			givenFrom, givenTo, given := from[:len(from)-3], to[:len(to)-3], steps[:len(e.plan)]
			if impl.CostLeast(c, givenFrom, givenTo) != e.least || impl.CostPlan(c, given) != weightOfAll(e.c.r, e.plan) || impl.CostPlan(c, steps) != -1 {
				t.Fatalf("%v: spare room matters from %v to %v by %v", e.c.r, givenFrom, givenTo, given)
			}
			impl.CostLeast(c, from, givenTo)
			impl.CostLeast(c, givenFrom, to)
			for _, s := range given {
				impl.CostOf(c, s)
			}
			if !slices.Equal(from, keptFrom) || !slices.Equal(to, keptTo) || !slices.Equal(steps, kept) {
				t.Fatalf("%v: %v, %v or %v was changed", e.c.r, givenFrom, givenTo, given)
			}
		}
		if whole() != before {
			t.Fatalf("%v was changed", list[0].c.r)
		}
	}
	for _, r := range badRepos() {
		c, whole := roomy(r)
		before := whole()
		impl.CostOf(c, put(0))
		impl.CostPlan(c, []impl.Step{put(0)})
		impl.CostLeast(c, nil, []int{0})
		if whole() != before {
			t.Fatalf("%v was changed", r)
		}
	}
}

func TestCostKeepsNothing(t *testing.T) {
	for range 2 {
		for _, list := range errands() {
			for _, e := range list[:min(len(list), 3)] {
				impl.CostLeast(e.c.r, setOf(e.to), setOf(e.from))
				impl.CostLeast(withRoom(e.c.r, 0), nil, nil)
				impl.CostPlan(e.c.r, []impl.Step{{}})
				if got := impl.CostLeast(e.c.r, setOf(e.from), setOf(e.to)); got != e.least {
					t.Fatalf("%v: from %v to %v %d must be moved, and then %d", e.c.r, setOf(e.from), setOf(e.to), e.least, got)
				}
			}
		}
	}
}
