package tests

import (
	"math"
	"slices"
	"testing"

	"loop.example/drydock/impl"
)

// toAndFro is so many steps that put a pack in and take it out, by turns.
func toAndFro(place, n int) []impl.Step {
	var steps []impl.Step
	for i := range n {
		if i%2 == 0 {
			steps = append(steps, put(place))
		} else {
			steps = append(steps, take(place))
		}
	}
	return steps
}

func TestPlanMaxSteps(t *testing.T) {
	r := dockOf(t, "room 2\npack a 1 1\npack a 2 1\npack b 1 1\npre a 1 2\n")
	for _, c := range []struct {
		n       int
		want    []int
		allowed bool
	}{
		{0, nil, true}, {1, []int{0}, true}, {2, nil, true},
		{impl.PlanMax - 1, []int{0}, true}, {impl.PlanMax, nil, true},
		{impl.PlanMax + 1, nil, false}, {impl.PlanMax + 2, nil, false}, {2*impl.PlanMax + 1, nil, false}, {100001, nil, false},
	} {
		steps := toAndFro(0, c.n)
		checkDo(t, r, nil, steps, c.want, c.allowed)
		if impl.PlanOk(r, nil, c.want, steps) != c.allowed || impl.PlanOk(r, nil, []int{1}, steps) {
			t.Errorf("%d steps are a plan, or are none", c.n)
		}
		// One that is not allowed, at the first, in the midst and at the last.
		for _, place := range []int{0, c.n / 2, c.n - 1} {
			if c.n > 0 {
				wrong := slices.Clone(steps)
				wrong[place] = put(2)
				if place%2 == 0 {
					checkDo(t, r, nil, wrong, nil, false)
				}
				wrong[place] = impl.Step{}
				checkDo(t, r, nil, wrong, nil, false)
			}
		}
	}
	if impl.PlanMax != 300 {
		t.Error("PlanMax")
	}
	swaps := []impl.Step{}
	for range impl.PlanMax / 2 {
		swaps = append(swaps, swap(0, 1), swap(1, 0))
	}
	checkDo(t, r, []int{0}, swaps, []int{0}, true)
	checkDo(t, r, []int{0}, swaps[1:], nil, false)
	checkDo(t, r, []int{0}, swaps[:299], []int{1}, true)
	checkDo(t, r, []int{0}, append(swaps, take(0)), nil, false)
	checkDo(t, r, []int{0}, append(swaps[:299:299], take(1)), nil, true)
}

func TestPromise26LongListsCut(t *testing.T) {
	d := dice(8)
	for _, c := range charts() {
		for _, n := range []int{impl.PlanMax - 1, impl.PlanMax} {
			from := c.states[d.below(len(c.states))]
			steps := c.thrownWalk(&d, from, n)
			end, _ := c.walk(from, steps)
			checkDo(t, c.r, setOf(from), steps, setOf(end), true)
			if len(steps) < n {
				continue
			}
			half, _ := c.walk(from, steps[:n/2])
			checkDo(t, c.r, setOf(half), steps[n/2:], setOf(end), true)
			more := append(steps, c.thrownWalk(&d, end, 2)...)
			checkDo(t, c.r, setOf(from), more, nil, false)
			checkDo(t, c.r, setOf(half), more[n/2:], setOf(bitsAt(c, end, more[n:])), true)
		}
	}
}

// bitsAt is where steps that are allowed lead.
func bitsAt(c chart, from int, steps []impl.Step) int {
	bits, _ := c.walk(from, steps)
	return bits
}

func TestTheFirstOfSeveral(t *testing.T) {
	three := ofNames("a", "b", "c")
	checkFind(t, three, nil, []int{0, 1, 2}, put(0), put(1), put(2))
	checkFind(t, three, []int{0, 1, 2}, nil, take(0), take(1), take(2))
	checkFind(t, three, []int{1}, []int{0, 2}, put(0), put(2), take(1))
	checkFind(t, three, []int{0, 2}, []int{1}, put(1), take(0), take(2))
	// To put in stands ahead of to take out, and both ahead of swaps, by their places there.
	two := dockOf(t, "room 9\npack a 1 1\npack a 2 1\npack b 1 1\npack b 2 1\npack c 1 1\n")
	checkFind(t, two, []int{0}, []int{2}, put(2), take(0))
	checkFind(t, two, []int{2}, []int{0}, put(0), take(2))
	checkFind(t, two, []int{0, 2}, []int{1, 3}, swap(0, 1), swap(2, 3))
	checkFind(t, two, []int{1, 3}, []int{0, 2}, swap(1, 0), swap(3, 2))
	checkFind(t, two, []int{0, 2}, []int{1, 4}, put(4), take(2), swap(0, 1))
	checkFind(t, two, []int{0, 4}, []int{1, 2}, put(2), take(4), swap(0, 1))
	// The first step is compared first, the last one last: a later step that comes sooner does not help.
	checkFind(t, withRoom(two, 2), []int{0, 2}, []int{1, 4}, take(2), swap(0, 1), put(4))
	checkFind(t, withRoom(two, 3), []int{0, 2}, []int{1, 4}, put(4), take(2), swap(0, 1))
	checkFind(t, withRoom(two, 1), []int{0}, []int{2}, take(0), put(2))
	checkFind(t, withRoom(two, 1), []int{0}, []int{1}, take(0), put(1))
	// By way of one that is neither there nor shall be: of several that serve the first.
	by := dockOf(t, "room 9\npack a 1 1\npre b 1 1\npack a 2 1\npre c 1 1\npack b 1 1\npack c 1 1\npack d 1 1\ndep a 1 2\n")
	checkFind(t, by, nil, []int{0}, put(2), put(0), take(2))
	checkFind(t, by, nil, []int{1}, put(3), put(1), take(3))
	checkFind(t, by, nil, []int{0, 4}, put(2), put(0), put(4), take(2))
	either := dockOf(t, "room 9\npack a 1 1\npre b 1 2\npack b 1 1\npack b 2 1\n")
	checkFind(t, either, nil, []int{0}, put(1), put(0), take(1))
	checkFind(t, either, nil, []int{0, 2}, put(2), put(0))
	checkFind(t, either, []int{2}, []int{0}, put(0), take(2))
	third := dockOf(t, "room 9\npack a 1 1\npack a 2 1\npre b 1 1\npack a 3 1\npre c 1 1\npack b 1 1\npack c 1 1\n")
	checkFind(t, third, []int{0, 3, 4}, []int{2, 4}, take(3), swap(0, 2))
	checkFind(t, third, []int{0}, []int{2, 4}, put(4), swap(0, 2))
	checkFind(t, third, []int{0}, []int{2}, put(4), swap(0, 2), take(4))
}

func TestPlansThatNeedASwap(t *testing.T) {
	// b needs an a, and cannot come in again: what it needs can only be swapped.
	needs := "pack a 1 2\npack a 2 2\npack b 1 1\ndep a 1 2\npre c 1 1\n"
	checkFind(t, dockOf(t, "room 5\n"+needs), []int{0, 2}, []int{1, 2}, swap(0, 1))
	checkFind(t, dockOf(t, "room 5\n"+needs), []int{1, 2}, []int{0, 2}, swap(1, 0))
	checkNone(t, dockOf(t, "room 4\n"+needs), []int{0, 2}, []int{1, 2})
	checkReach(t, dockOf(t, "room 4\n"+needs), []int{0, 2}, nil, []int{0}, []int{1}, []int{0, 2})
	checkReach(t, dockOf(t, "room 5\n"+needs), []int{0, 2}, nil, []int{0}, []int{1}, []int{0, 2}, []int{1, 2})
	checkReach(t, dockOf(t, "room 5\n"+needs), nil, nil, []int{0}, []int{1})
	// A version that bans what another needs, so that both are swapped by way of a third.
	three := dockOf(t, "room 9\npack a 1 1\npack a 2 1\npack a 3 1\nban b 1 1\npack b 1 1\ndep a 1 2\npack b 2 1\ndep a 2 3\n")
	checkFind(t, three, []int{0, 3}, []int{2, 4}, take(3), swap(0, 2), put(4))
	checkFind(t, withRoom(three, 3), []int{0, 3}, []int{1, 4}, swap(0, 1), swap(3, 4))
	checkFind(t, withRoom(three, 2), []int{0, 3}, []int{1, 4}, take(3), swap(0, 1), put(4))
}

func TestPlansWithLessAndLessRoom(t *testing.T) {
	sizes := "pack a 1 2\npack a 2 2\npack b 1 1\ndep a 1 2\n"
	from, to := []int{0, 2}, []int{1, 2}
	checkFind(t, dockOf(t, "room 999\n"+sizes), from, to, swap(0, 1))
	checkFind(t, dockOf(t, "room 5\n"+sizes), from, to, swap(0, 1))
	// What is in the way is taken out first, and put in again later.
	checkFind(t, dockOf(t, "room 4\n"+sizes), from, to, take(2), swap(0, 1), put(2))
	checkFind(t, dockOf(t, "room 3\n"+sizes), from, to, take(2), take(0), put(1), put(2))
	checkNone(t, dockOf(t, "room 2\n"+sizes), from, to)
	checkFind(t, dockOf(t, "room 2\n"+sizes), []int{0}, []int{1}, take(0), put(1))
	checkNone(t, dockOf(t, "room 1\n"+sizes), []int{0}, []int{1})
	// What must be there ahead has no room beside the rest.
	ahead := "pack a 1 2\npack b 1 2\npre c 1 1\npack c 1 2\n"
	checkFind(t, dockOf(t, "room 6\n"+ahead), []int{0}, []int{0, 1}, put(2), put(1), take(2))
	checkFind(t, dockOf(t, "room 5\n"+ahead), []int{0}, []int{0, 1}, put(2), take(0), put(1), take(2), put(0))
	checkFind(t, dockOf(t, "room 4\n"+ahead), []int{0}, []int{0, 1}, put(2), take(0), put(1), take(2), put(0))
	checkNone(t, dockOf(t, "room 3\n"+ahead), nil, []int{1})
}

func TestLongPlans(t *testing.T) {
	docks := longDocks()
	checkFind(t, docks[0], []int{7}, []int{2, 4, 6},
		take(7), put(1), put(4), take(1), put(5), swap(4, 3), put(0), swap(5, 6), take(3), take(6), put(2), swap(0, 1), put(4), take(1), put(5), swap(4, 3), swap(5, 6), take(3), put(1), put(4), take(1))
	checkFind(t, docks[1], []int{1, 3, 6}, []int{0, 3, 5},
		take(1), take(6), take(3), put(4), put(7), take(4), put(5), take(7), put(0), put(2), take(0), swap(5, 4), put(7), take(4), put(1), take(2), put(5), take(7), put(6), put(3), take(1), take(6), put(0))
}

func TestWhatCannotBeComeTo(t *testing.T) {
	both := dockOf(t, "room 0\npack a 1 0\ndep b 1 1\npack b 1 0\ndep a 1 1\n")
	checkReach(t, both, nil, nil)
	checkReach(t, both, []int{0, 1}, []int{0, 1})
	checkNone(t, both, nil, []int{0, 1})
	checkNone(t, both, []int{0, 1}, nil)
	checkFind(t, both, []int{0, 1}, []int{0, 1})
	// Only out, not in: nothing is ever there ahead of it.
	out := dockOf(t, "room 9\npack a 1 1\npre c 1 1\npack b 1 1\n")
	checkFind(t, out, []int{0}, nil, take(0))
	checkNone(t, out, nil, []int{0})
	checkNone(t, out, []int{1}, []int{0, 1})
	checkNone(t, out, []int{1}, []int{0})
	checkFind(t, out, []int{0, 1}, []int{1}, take(0))
	checkFind(t, out, []int{0}, []int{0, 1}, put(1))
	checkReach(t, out, nil, nil, []int{1})
	checkReach(t, out, []int{0}, nil, []int{0}, []int{1}, []int{0, 1})
	// A swap from what shall be, but room lacks for it, and no other way leads there.
	full := dockOf(t, "room 2\npack a 1 1\ndep b 1 2\npack b 1 1\npack b 2 1\npre a 1 1\n")
	checkNone(t, full, []int{0, 1}, []int{0, 2})
	checkNone(t, full, nil, []int{2})
	checkNone(t, full, []int{1}, []int{2})
	checkFind(t, full, []int{0, 2}, []int{0, 1}, take(0), swap(2, 1), put(0))
	checkFind(t, withRoom(full, 3), []int{0, 1}, []int{0, 2}, swap(1, 2))
}

func TestPlansOfNoPacks(t *testing.T) {
	for _, r := range []impl.Repo{{}, {Room: impl.RepoMaxSize}, {Packs: []impl.Pack{}}} {
		checkFind(t, r, nil, nil)
		checkFind(t, r, []int{}, nil)
		checkReach(t, r, nil, nil)
		checkReach(t, r, []int{}, []int{})
		checkDo(t, r, nil, nil, nil, true)
		checkNone(t, r, nil, []int{0})
		checkNone(t, r, []int{0}, nil)
		checkReach(t, r, []int{0})
		for _, s := range append(wrongSteps(0), put(0), take(0), swap(0, 1)) {
			checkDo(t, r, nil, []impl.Step{s}, nil, false)
		}
	}
}

func TestPlansOfFullDocks(t *testing.T) {
	eight := ofNames("a", "b", "c", "d", "e", "f", "g", "h")
	all := []int{0, 1, 2, 3, 4, 5, 6, 7}
	var puts, takes []impl.Step
	for i := range 8 {
		puts = append(puts, put(i))
		takes = append(takes, take(i))
	}
	checkFind(t, eight, nil, all, puts...)
	checkFind(t, eight, all, nil, takes...)
	checkFind(t, eight, []int{0, 2, 4, 6}, []int{1, 3, 5, 7}, put(1), put(3), put(5), put(7), take(0), take(2), take(4), take(6))
	checkReach(t, eight, nil, allSets(8)...)
	checkReach(t, eight, all, allSets(8)...)
	checkReach(t, eight, []int{3, 5}, allSets(8)...)
	one := impl.Repo{Packs: manyPacks(impl.RepoMax), Room: 13}
	ones := [][]int{nil, {0}, {1}, {2}, {3}, {4}, {5}, {6}, {7}}
	checkReach(t, one, nil, ones...)
	checkReach(t, one, []int{7}, ones...)
	checkReach(t, withRoom(one, 6), []int{2}, ones[:8]...)
	checkFind(t, one, []int{7}, []int{6}, swap(7, 6))
	checkFind(t, withRoom(one, 12), []int{7}, []int{6}, take(7), put(6))
	checkFind(t, withRoom(one, 7), []int{7}, []int{0}, swap(7, 0))
	checkFind(t, withRoom(one, 7), []int{7}, []int{1}, take(7), put(1))
	// Each needs the one ahead of it, in one order only.
	chain := impl.Repo{}
	for i := range 8 {
		p := impl.Pack{Name: string(rune('h' - i))}
		if i > 0 {
			p.Deps = [][]impl.Req{{req(string(rune('h'-i+1)), 0, 99)}}
		}
		chain.Packs = append([]impl.Pack{p}, chain.Packs...)
	}
	backwards := slices.Clone(puts)
	slices.Reverse(backwards)
	checkFind(t, chain, nil, all, backwards...)
	checkFind(t, chain, all, nil, takes...)
	checkReach(t, chain, []int{6, 7}, nil, []int{7}, []int{6, 7}, []int{5, 6, 7}, []int{4, 5, 6, 7}, all[3:], all[2:], all[1:], all)
}

func TestOrderOfPlanReach(t *testing.T) {
	three := ofNames("a", "b", "c")
	checkReach(t, three, nil, nil, []int{0}, []int{1}, []int{0, 1}, []int{2}, []int{0, 2}, []int{1, 2}, []int{0, 1, 2})
	checkReach(t, three, []int{1, 2}, nil, []int{0}, []int{1}, []int{0, 1}, []int{2}, []int{0, 2}, []int{1, 2}, []int{0, 1, 2})
	checkReach(t, dockOf(t, "room 1\npack a 1 1\npack b 1 0\npack c 1 1\n"), []int{1, 2}, nil, []int{0}, []int{1}, []int{0, 1}, []int{2}, []int{1, 2})
}

// eachWrongState goes over states of all docks that are not in form, and over some that are not healthy, each with a healthy one.
func eachWrongState(do func(c chart, ok, set []int)) {
	asked := 0
	for _, c := range charts() {
		wrong := wrongSets(len(c.r.Packs))
		for _, set := range allSets(len(c.r.Packs)) {
			if unserved(c.r, set) != "" && asked%3 == 0 {
				wrong = append(wrong, set)
			}
			asked++
		}
		for _, set := range wrong {
			do(c, setOf(c.states[len(c.states)-1]), set)
		}
	}
}

func TestPlansOfWrongStates(t *testing.T) {
	eachWrongState(func(c chart, ok, set []int) {
		checkReach(t, c.r, set)
		checkNone(t, c.r, set, nil)
		checkNone(t, c.r, set, ok)
		checkNone(t, c.r, nil, set)
		checkNone(t, c.r, ok, set)
		checkNone(t, c.r, set, set)
		checkDo(t, c.r, set, nil, nil, false)
		for _, s := range c.steps {
			checkDo(t, c.r, set, []impl.Step{s}, nil, false)
		}
		if impl.PlanOk(c.r, set, set, nil) || impl.PlanOk(c.r, set, nil, nil) || impl.PlanOk(c.r, nil, set, nil) || impl.PlanOk(c.r, ok, set, nil) || t.Failed() {
			t.Fatalf("%v: no step leads from or to %v", c.r, brief(set))
		}
	})
	// Also where a step leads to what is not healthy, or from there to what is.
	r := dockOf(t, "room 2\npack a 1 2\npack b 1 1\ndep c 1 1\npack c 1 0\n")
	checkNone(t, r, []int{0, 1, 2}, []int{1, 2})
	checkNone(t, r, []int{1, 2}, []int{0, 1, 2})
	checkNone(t, r, []int{1}, []int{1, 2})
	checkNone(t, r, []int{1, 2}, []int{1})
	checkDo(t, r, []int{1}, []impl.Step{take(1)}, nil, false)
	checkDo(t, r, []int{1, 2}, []impl.Step{take(2), take(1)}, nil, false)
	checkDo(t, r, []int{1, 2}, []impl.Step{take(1), take(2)}, nil, true)
	// What shall be is told just so: in order, each once, and nothing else.
	two := ofNames("a", "b")
	plan := []impl.Step{put(1), put(0)}
	for _, c := range []struct {
		to   []int
		want bool
	}{
		{[]int{0, 1}, true}, {[]int{1, 0}, false}, {[]int{0, 1, 1}, false}, {[]int{0, 0, 1}, false}, {[]int{0}, false}, {[]int{1}, false}, {nil, false}, {[]int{0, 1, 2}, false}, {[]int{-1, 0, 1}, false},
	} {
		if impl.PlanOk(two, nil, c.to, plan) != c.want {
			t.Errorf("%v leads to %v: %v", plan, c.to, !c.want)
		}
	}
}

func TestPlansOfWrongSteps(t *testing.T) {
	found := 0
	eachFound(t, func(f search) {
		// A seventh of the plans is enough: it is of all lengths.
		if found++; found%7 != 0 {
			return
		}
		from, to := setOf(f.from), setOf(f.to)
		for _, s := range wrongSteps(len(f.c.r.Packs)) {
			for _, place := range []int{0, len(f.plan) / 2, len(f.plan)} {
				steps := slices.Insert(slices.Clone(f.plan), place, s)
				checkDo(t, f.c.r, from, steps, nil, false)
				if impl.PlanOk(f.c.r, from, to, steps) || impl.PlanOk(f.c.r, from, nil, steps) {
					t.Fatalf("%v: %v is a plan", f.c.r, steps)
				}
			}
		}
	})
	r := dockOf(t, "room 9\npack a 1 1\npack a 2 1\npack b 1 1\ndep a 1 2\n")
	checkDo(t, r, nil, []impl.Step{put(0), put(2), take(2)}, []int{0}, true)
	for _, steps := range [][]impl.Step{
		{put(2), put(0), take(2)}, {put(0), put(2), put(2)}, {put(0), put(2), take(0)}, {put(0), take(2), put(2)},
		{put(0), put(1), take(1)}, {put(0), swap(1, 0), take(0)}, {put(0), put(2), swap(0, 2)}, {take(0), put(0), put(2)}, {swap(0, 1), put(0), put(2)},
		{put(0), put(0)}, {take(2)}, {put(0), take(0), take(0)},
	} {
		checkDo(t, r, nil, steps, nil, false)
	}
	// What comes of the whole does not matter: put in and taken out at once, each step must be allowed.
	checkDo(t, dockOf(t, "room 1\npack a 1 1\npack b 1 1\n"), []int{0}, []impl.Step{put(1), take(1)}, nil, false)
	checkDo(t, dockOf(t, "room 2\npack a 1 1\npack b 1 1\n"), []int{0}, []impl.Step{put(1), take(1)}, []int{0}, true)
}

func TestPlansOfBadPacks(t *testing.T) {
	for _, r := range badRepos() {
		for _, set := range [][]int{nil, {}, {0}, {1}, {0, 1}, {-1}, {9}} {
			checkReach(t, r, set)
			checkNone(t, r, set, nil)
			checkNone(t, r, nil, set)
			checkNone(t, r, set, set)
			for _, steps := range [][]impl.Step{nil, {}, {put(0)}, {take(0)}, {swap(0, 1)}, toAndFro(0, 2), {{}}, {put(math.MaxInt)}} {
				checkDo(t, r, set, steps, nil, false)
				if impl.PlanOk(r, set, set, steps) || impl.PlanOk(r, set, nil, steps) {
					t.Errorf("%v: from %v %v is a plan", r, set, steps)
				}
			}
		}
	}
}

// spoilt writes into a list of numbers, up to the end of its spare room.
func spoilt(list []int) {
	for i := range list[:cap(list)] {
		list[:cap(list)][i] = -7
	}
}

func TestPlansAreNewMemory(t *testing.T) {
	eachFound(t, func(f search) {
		again, _ := impl.PlanFind(f.c.r, setOf(f.from), setOf(f.to))
		for i := range again[:cap(again)] {
			again[:cap(again)][i] = impl.Step{Kind: -7}
		}
		if third, ok := impl.PlanFind(f.c.r, setOf(f.from), setOf(f.to)); !ok || !slices.Equal(third, f.plan) {
			t.Fatalf("%v: two answers share memory", f.c.r)
		}
		// Also of no step the state is a new one.
		from := append(setOf(f.from), -5)[:len(setOf(f.from))]
		for _, steps := range [][]impl.Step{nil, f.plan} {
			first, _ := impl.PlanDo(f.c.r, from, steps)
			second, _ := impl.PlanDo(f.c.r, from, steps)
			want := slices.Clone(second)
			spoilt(first)
			if !slices.Equal(second, want) || !slices.Equal(from[:len(from)+1], append(setOf(f.from), -5)) {
				t.Fatalf("%v: what comes of %v shares memory", f.c.r, steps)
			}
		}
	})
	for _, c := range charts() {
		from := setOf(c.states[len(c.states)/2])
		want := setsOf(c.reach(bitsOf(from)))
		list := impl.PlanReach(c.r, from)
		for i := range list {
			spoilt(list[i])
			if i+1 < len(list) && !sameSets(list[i+1:], want[i+1:]) {
				t.Fatalf("%v: two states of %v share memory", c.r, want)
			}
		}
		for i := range list[:cap(list)] {
			list[:cap(list)][i] = []int{-7}
		}
		if !sameSets(impl.PlanReach(c.r, from), want) || !slices.Equal(from, setOf(bitsOf(from))) {
			t.Fatalf("%v: two answers share memory", c.r)
		}
	}
}

func TestPlansWriteNothing(t *testing.T) {
	for _, list := range searches() {
		c, whole := roomy(list[0].c.r)
		before := whole()
		for _, f := range list[:min(len(list), 12)] {
			from := append(setOf(f.from), 0, 1, -5)
			to := append(setOf(f.to), 0, 1, -5)
			steps := append(slices.Clone(f.plan), put(0), impl.Step{Kind: -5})
			keptFrom, keptTo, kept := slices.Clone(from), slices.Clone(to), slices.Clone(steps)
			givenFrom, givenTo, given := from[:len(from)-3], to[:len(to)-3], steps[:len(f.plan)]
			plan, ok := impl.PlanFind(c, givenFrom, givenTo)
			if ok != f.ok || !slices.Equal(plan, f.plan) || impl.PlanOk(c, givenFrom, givenTo, given) != f.ok {
				t.Fatalf("%v: spare room matters from %v to %v", f.c.r, givenFrom, givenTo)
			}
			if set, ok := impl.PlanDo(c, givenFrom, given); f.ok && (!ok || !slices.Equal(set, givenTo)) {
				t.Fatalf("%v: spare room matters to %v", f.c.r, given)
			}
			if !sameSets(impl.PlanReach(c, givenFrom), impl.PlanReach(f.c.r, setOf(f.from))) {
				t.Fatalf("%v: spare room matters from %v", f.c.r, givenFrom)
			}
			if !slices.Equal(from, keptFrom) || !slices.Equal(to, keptTo) || !slices.Equal(steps, kept) {
				t.Fatalf("%v: %v, %v or %v was changed", f.c.r, givenFrom, givenTo, given)
			}
		}
		if whole() != before {
			t.Fatalf("%v was changed", list[0].c.r)
		}
	}
}

func TestPlansKeepNothing(t *testing.T) {
	for range 2 {
		for _, list := range searches() {
			for _, f := range list[:min(len(list), 3)] {
				impl.PlanFind(f.c.r, setOf(f.to), setOf(f.from))
				impl.PlanReach(withRoom(f.c.r, 0), nil)
				if plan, ok := impl.PlanFind(f.c.r, setOf(f.from), setOf(f.to)); ok != f.ok || !slices.Equal(plan, f.plan) {
					t.Fatalf("%v: from %v to %v by %v, and then by %v", f.c.r, setOf(f.from), setOf(f.to), f.plan, plan)
				}
			}
		}
	}
}
