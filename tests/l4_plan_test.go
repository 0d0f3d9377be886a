package tests

import (
	"math"
	"slices"
	"testing"

	"loop.example/drydock/impl"
)

// sameSets says whether two lists of sets are the same.
func sameSets(a, b [][]int) bool {
	return slices.EqualFunc(a, b, slices.Equal)
}

// setsOf is the sets of bits.
func setsOf(list []int) [][]int {
	var sets [][]int
	for _, bits := range list {
		sets = append(sets, setOf(bits))
	}
	return sets
}

// brief is the begin of a list, as some of those that tests hand in are too long to be told.
func brief[T any](list []T) []T {
	return list[:min(len(list), 30)]
}

// checkDo asks PlanDo for a state, or, if it is to be refused, for nothing and false.
func checkDo(t *testing.T, r impl.Repo, set []int, steps []impl.Step, want []int, allowed bool) {
	t.Helper()
	if !allowed {
		want = nil
	}
	if got, ok := impl.PlanDo(r, set, steps); ok != allowed || !slices.Equal(got, want) {
		t.Errorf("%v: from %v %v leads to %v, %v; not %v, %v", r, brief(set), brief(steps), got, ok, want, allowed)
	}
}

// checkFind asks PlanFind for just this plan.
func checkFind(t *testing.T, r impl.Repo, from, to []int, want ...impl.Step) {
	t.Helper()
	if got, ok := impl.PlanFind(r, from, to); !ok || !slices.Equal(got, want) {
		t.Errorf("%v: from %v to %v by %v, %v; not %v", r, from, to, got, ok, want)
	}
	if !impl.PlanOk(r, from, to, want) {
		t.Errorf("%v: from %v to %v it is no plan: %v", r, from, to, want)
	}
}

// checkNone asks PlanFind for nothing and false.
func checkNone(t *testing.T, r impl.Repo, from, to []int) {
	t.Helper()
	if got, ok := impl.PlanFind(r, from, to); ok || len(got) > 0 {
		t.Errorf("%v: from %v to %v by %v, %v", r, brief(from), brief(to), got, ok)
	}
}

// checkReach asks PlanReach for just these states.
func checkReach(t *testing.T, r impl.Repo, from []int, want ...[]int) {
	t.Helper()
	if got := impl.PlanReach(r, from); !sameSets(got, want) {
		t.Errorf("%v: from %v %v can be come to, not %v", r, brief(from), got, want)
	}
}

// wrongSteps is steps that are none of StepAll, whatever so many packs are.
func wrongSteps(n int) []impl.Step {
	return []impl.Step{
		{}, {Kind: 4}, {Kind: -1}, {Kind: math.MaxInt},
		put(-1), put(n), put(math.MaxInt), put(math.MinInt), take(-1), take(n), swap(0, 0), swap(0, n), swap(-1, 0),
		{Kind: impl.StepPut, In: 0, Out: 1}, {Kind: impl.StepTake, In: 1, Out: 0}, {Kind: impl.StepPut, In: 0, Out: -1},
	}
}

// eachWalk goes over thrown steps from some healthy states of all docks: all of them allowed, or one of them thrown from all that there might be.
func eachWalk(t *testing.T, do func(c chart, from int, steps []impl.Step)) {
	t.Helper()
	d := dice(4)
	allowed, refused := 0, 0
	for _, c := range charts() {
		wrong := append(wrongSteps(len(c.r.Packs)), c.steps...)
		for _, from := range some(c.states, 6) {
			for range 3 {
				steps := c.thrownWalk(&d, from, d.below(14))
				if len(steps) > 0 && d.below(2) == 0 {
					steps[d.below(len(steps))] = wrong[d.below(len(wrong))]
				}
				if _, ok := c.walk(from, steps); ok {
					allowed++
				} else {
					refused++
				}
				do(c, from, steps)
			}
		}
	}
	if allowed < 1000 || refused < 1000 {
		t.Errorf("%d walks are allowed, %d are not", allowed, refused)
	}
}

func TestPromise26CutAnywhere(t *testing.T) {
	eachWalk(t, func(c chart, from int, steps []impl.Step) {
		want, allowed := c.walk(from, steps)
		checkDo(t, c.r, setOf(from), steps, setOf(want), allowed)
		for cut := range len(steps) + 1 {
			half, ok := impl.PlanDo(c.r, setOf(from), steps[:cut])
			if !ok {
				if allowed || len(half) > 0 {
					t.Fatalf("%v: from %v %v leads to %v, %v", c.r, setOf(from), steps[:cut], half, ok)
				}
				continue
			}
			checkDo(t, c.r, half, steps[cut:], setOf(want), allowed)
		}
	})
}

func TestPromise26StepByStep(t *testing.T) {
	eachWalk(t, func(c chart, from int, steps []impl.Step) {
		set, ok := setOf(from), true
		for i, s := range steps {
			if set, ok = impl.StepDo(c.r, set, s); !ok {
				checkDo(t, c.r, setOf(from), steps[:i+1], nil, false)
				break
			}
			checkDo(t, c.r, setOf(from), steps[:i+1], set, true)
		}
		checkDo(t, c.r, setOf(from), steps, set, ok)
	})
}

func TestPromise27JustWhereItLeads(t *testing.T) {
	eachWalk(t, func(c chart, from int, steps []impl.Step) {
		end, allowed := c.walk(from, steps)
		for _, to := range append(some(c.states, 12), end) {
			if got := impl.PlanOk(c.r, setOf(from), setOf(to), steps); got != (allowed && to == end) {
				t.Fatalf("%v: %v leads from %v to %v: %v", c.r, steps, setOf(from), setOf(to), got)
			}
		}
		for _, to := range [][]int{{-1}, {len(c.r.Packs)}, append(setOf(end), 9), append([]int{-1}, setOf(end)...), append([]int{0}, setOf(end)...)} {
			if impl.PlanOk(c.r, setOf(from), to, steps) {
				t.Fatalf("%v: %v leads from %v to %v", c.r, steps, setOf(from), to)
			}
		}
	})
}

func TestPromise28TheFirstOfTheShortest(t *testing.T) {
	for _, list := range searches() {
		var plans map[int][]int
		for i, f := range list {
			if i == 0 || list[i-1].to != f.to {
				plans = f.c.firstPlans(f.to)
			}
			want, found := plans[f.from]
			if f.ok != found || !slices.Equal(f.plan, f.c.stepsAt(want)) {
				t.Fatalf("%v: from %v to %v by %v, %v; not %v, %v", f.c.r, setOf(f.from), setOf(f.to), f.plan, f.ok, f.c.stepsAt(want), found)
			}
			if f.ok && !impl.PlanOk(f.c.r, setOf(f.from), setOf(f.to), f.plan) {
				t.Fatalf("%v: from %v to %v it is no plan: %v", f.c.r, setOf(f.from), setOf(f.to), f.plan)
			}
		}
	}
}

// firstOfAll is the first plan of all lists of so many steps, gone through one by one.
func firstOfAll(r impl.Repo, from, to []int, n int) ([]impl.Step, bool) {
	all := impl.StepAll(r)
	lists := 1
	for range n {
		lists *= len(all)
	}
	for number := range lists {
		steps := make([]impl.Step, n)
		for i, left := n-1, number; i >= 0; i, left = i-1, left/len(all) {
			steps[i] = all[left%len(all)]
		}
		if impl.PlanOk(r, from, to, steps) {
			return steps, true
		}
	}
	return nil, false
}

func TestPromise28OfAllListsOfSteps(t *testing.T) {
	asked := map[int]int{}
	for _, list := range searches() {
		for _, f := range list {
			if !f.ok || len(f.c.steps) > 8 || len(f.plan) > 4 || asked[len(f.plan)] > 150 {
				continue
			}
			asked[len(f.plan)]++
			for n := range len(f.plan) {
				if shorter, ok := firstOfAll(f.c.r, setOf(f.from), setOf(f.to), n); ok {
					t.Fatalf("%v: from %v to %v by %v, but also by %v", f.c.r, setOf(f.from), setOf(f.to), f.plan, shorter)
				}
			}
			if first, ok := firstOfAll(f.c.r, setOf(f.from), setOf(f.to), len(f.plan)); !ok || !slices.Equal(first, f.plan) {
				t.Fatalf("%v: from %v to %v by %v, but first by %v", f.c.r, setOf(f.from), setOf(f.to), f.plan, first)
			}
		}
	}
	for length := range 4 {
		if asked[length] < 20 {
			t.Errorf("only %d plans of %d steps", asked[length], length)
		}
	}
}

func TestPromise28NoWalkIsShorter(t *testing.T) {
	eachWalk(t, func(c chart, from int, steps []impl.Step) {
		if end, ok := c.walk(from, steps); ok {
			plan, found := impl.PlanFind(c.r, setOf(from), setOf(end))
			if !found || len(plan) > len(steps) {
				t.Fatalf("%v: from %v to %v by %v, %v, but also by %v", c.r, setOf(from), setOf(end), plan, found, steps)
			}
		}
	})
}

func TestPromise29FoundJustIfComeTo(t *testing.T) {
	none := 0
	for _, list := range searches() {
		reached := map[int][][]int{}
		for _, f := range list {
			if _, asked := reached[f.from]; !asked {
				reached[f.from] = impl.PlanReach(f.c.r, setOf(f.from))
			}
			among := slices.ContainsFunc(reached[f.from], func(set []int) bool { return slices.Equal(set, setOf(f.to)) })
			if f.ok != among || !f.ok && len(f.plan) > 0 {
				t.Fatalf("%v: from %v to %v by %v, %v; can be come to: %v", f.c.r, setOf(f.from), setOf(f.to), f.plan, f.ok, among)
			}
			if !f.ok {
				none++
			}
		}
	}
	if none < 1000 {
		t.Errorf("only %d searches found nothing", none)
	}
}

func TestPromise30NoStepAheadLetsAsFewLack(t *testing.T) {
	eachFound(t, func(f search) {
		if len(f.plan) == 0 {
			return
		}
		for _, s := range impl.StepAll(f.c.r) {
			if s == f.plan[0] {
				return
			}
			set, ok := impl.StepDo(f.c.r, setOf(f.from), s)
			if !ok {
				continue
			}
			if rest, ok := impl.PlanFind(f.c.r, set, setOf(f.to)); ok && len(rest) < len(f.plan) {
				t.Fatalf("%v: from %v to %v by %v, but %v stands ahead, and behind it lack %v", f.c.r, setOf(f.from), setOf(f.to), f.plan, s, rest)
			}
		}
		t.Fatalf("%v: %v is none of StepAll", f.c.r, f.plan[0])
	})
}

func TestPromise31InTheMidst(t *testing.T) {
	eachFound(t, func(f search) {
		for cut := range len(f.plan) + 1 {
			set, ok := impl.PlanDo(f.c.r, setOf(f.from), f.plan[:cut])
			rest, found := impl.PlanFind(f.c.r, set, setOf(f.to))
			if !ok || !found || !slices.Equal(rest, f.plan[cut:]) {
				t.Fatalf("%v: from %v to %v by %v, but from %v on by %v", f.c.r, setOf(f.from), setOf(f.to), f.plan, set, rest)
			}
		}
	})
}

func TestPromise32MoreRoom(t *testing.T) {
	shorter := 0
	eachFound(t, func(f search) {
		for _, room := range []int{f.c.r.Room + 1, f.c.r.Room + 4, impl.RepoMaxSize} {
			if room > impl.RepoMaxSize {
				continue
			}
			r := withRoom(f.c.r, room)
			plan, ok := impl.PlanFind(r, setOf(f.from), setOf(f.to))
			if !ok || len(plan) > len(f.plan) || !impl.PlanOk(r, setOf(f.from), setOf(f.to), f.plan) {
				t.Fatalf("%v: from %v to %v by %v, with room %d by %v, %v", f.c.r, setOf(f.from), setOf(f.to), f.plan, room, plan, ok)
			}
			if len(plan) < len(f.plan) {
				shorter++
			}
		}
	})
	if shorter < 100 {
		t.Errorf("only %d plans get shorter by more room", shorter)
	}
}

func TestPromise33FromAStateToItself(t *testing.T) {
	healthy, others := 0, 0
	for _, c := range charts() {
		for bits, set := range allSets(len(c.r.Packs)) {
			if _, ok := c.leads[bits]; ok {
				healthy++
				checkFind(t, c.r, set, set)
				checkDo(t, c.r, set, nil, set, true)
				checkDo(t, c.r, set, []impl.Step{}, set, true)
				continue
			}
			others++
			checkNone(t, c.r, set, set)
			checkNone(t, c.r, set, nil)
			checkDo(t, c.r, set, nil, nil, false)
			if impl.PlanOk(c.r, set, set, nil) || impl.PlanOk(c.r, set, nil, nil) {
				t.Fatalf("%v: %v is not healthy, but no step leads from it to itself", c.r, set)
			}
		}
	}
	if healthy < 1000 || others < 1000 {
		t.Errorf("%d states are healthy, %d are not", healthy, others)
	}
}

func TestPromise34WhatCanBeComeTo(t *testing.T) {
	parts := 0
	for _, c := range charts() {
		for _, from := range some(c.states, 24) {
			reached := impl.PlanReach(c.r, setOf(from))
			if !sameSets(reached, setsOf(c.reach(from))) {
				t.Fatalf("%v: from %v %v can be come to, not %v", c.r, setOf(from), reached, setsOf(c.reach(from)))
			}
			if len(reached) < len(c.states) {
				parts++
			}
			seen := map[int]int{}
			last := -1
			for _, set := range reached {
				bits := bitsOf(set)
				if bits <= last || !impl.StateOk(c.r, set) {
					t.Fatalf("%v: from %v %v can be come to", c.r, setOf(from), reached)
				}
				last = bits
				seen[bits]++
			}
			if seen[from] != 1 {
				t.Fatalf("%v: from %v it cannot be come to itself", c.r, setOf(from))
			}
			for _, set := range reached {
				for _, s := range impl.StepFrom(c.r, set) {
					if then, ok := impl.StepDo(c.r, set, s); !ok || seen[bitsOf(then)] != 1 {
						t.Fatalf("%v: from %v %v can be come to, but not %v", c.r, setOf(from), set, then)
					}
				}
			}
		}
	}
	if parts < 500 {
		t.Errorf("only from %d states some cannot be come to", parts)
	}
}

func TestPromise35FromWhatCanBeComeTo(t *testing.T) {
	for _, c := range charts() {
		for _, from := range some(c.states, 6) {
			seen := map[int]int{}
			var reached []int
			for _, set := range impl.PlanReach(c.r, setOf(from)) {
				seen[bitsOf(set)]++
				reached = append(reached, bitsOf(set))
			}
			for _, by := range some(reached, 12) {
				for _, set := range impl.PlanReach(c.r, setOf(by)) {
					if seen[bitsOf(set)] != 1 {
						t.Fatalf("%v: from %v %v can be come to, and from there %v", c.r, setOf(from), setOf(by), set)
					}
				}
			}
		}
	}
}

func TestPromise36ByAThirdState(t *testing.T) {
	asked := 0
	for _, list := range searches() {
		found := map[[2]int][]impl.Step{}
		var ends []int
		for _, f := range list {
			if f.ok {
				found[[2]int{f.from, f.to}] = f.plan
			}
			if f.from == f.to {
				ends = append(ends, f.to)
			}
		}
		for way, first := range found {
			for _, third := range ends {
				second, ok := found[[2]int{way[1], third}]
				if !ok {
					continue
				}
				asked++
				if whole, ok := found[[2]int{way[0], third}]; !ok || len(whole) > len(first)+len(second) {
					t.Fatalf("%v: from %v to %v by %v and %v, but found was %v, %v", list[0].c.r, setOf(way[0]), setOf(third), first, second, whole, ok)
				}
				if !impl.PlanOk(list[0].c.r, setOf(way[0]), setOf(third), slices.Concat(first, second)) {
					t.Fatalf("%v: from %v to %v it is no plan: %v, %v", list[0].c.r, setOf(way[0]), setOf(third), first, second)
				}
			}
		}
	}
	if asked < 10000 {
		t.Errorf("only %d ways by a third state", asked)
	}
}

func TestPromise37AllOnAPlanAreHealthy(t *testing.T) {
	eachFound(t, func(f search) {
		bits := f.from
		for cut := range len(f.plan) + 1 {
			set, ok := impl.PlanDo(f.c.r, setOf(f.from), f.plan[:cut])
			if !ok || !impl.StateOk(f.c.r, set) || unserved(f.c.r, set) != "" {
				t.Fatalf("%v: from %v %v leads to %v, %v", f.c.r, setOf(f.from), f.plan[:cut], set, ok)
			}
			if cut > 0 {
				s := f.plan[cut-1]
				if why := refusal(f.c.r, setOf(bits), s); why != "" || bitsOf(set) != bitsOf(behindOf(setOf(bits), s)) {
					t.Fatalf("%v: from %v %v leads to %v: %q", f.c.r, setOf(bits), s, set, why)
				}
			}
			bits = bitsOf(set)
		}
	})
}

func TestPromise38NothingAskedFor(t *testing.T) {
	shorter := 0
	eachFound(t, func(f search) {
		r := nothingAsked(f.c.r)
		plan, ok := impl.PlanFind(r, setOf(f.from), setOf(f.to))
		if !ok || len(plan) > len(f.plan) || !impl.PlanOk(r, setOf(f.from), setOf(f.to), f.plan) {
			t.Fatalf("%v: from %v to %v by %v, with nothing asked for by %v, %v", f.c.r, setOf(f.from), setOf(f.to), f.plan, plan, ok)
		}
		if len(plan) < len(f.plan) {
			shorter++
		}
	})
	if shorter < 100 {
		t.Errorf("only %d plans get shorter with nothing asked for", shorter)
	}
}
