package tests

import (
	"slices"
	"sync"
	"testing"

	"loop.example/drydock/impl"
)

// weightOf is how much a step moves, by the document's words; -1, if it is none of all steps.
func weightOf(r impl.Repo, s impl.Step) int {
	if !slices.Contains(everyStep(r), s) {
		return -1
	}
	switch s.Kind {
	case impl.StepPut:
		return r.Packs[s.In].Size
	case impl.StepTake:
		return r.Packs[s.Out].Size
	}
	return r.Packs[s.In].Size + r.Packs[s.Out].Size
}

// weightOfAll is how much steps move that are all of all steps.
func weightOfAll(r impl.Repo, steps []impl.Step) int {
	sum := 0
	for _, s := range steps {
		sum += weightOf(r, s)
	}
	return sum
}

// way is how much is moved on a way, and by how many steps.
type way struct {
	moved int
	steps int
}

// leastWays is of each state that can be come to a way on which the least is moved, of several one of the fewest steps. All ways are made better, round by round, until none gets better.
func (c chart) leastWays(from int) map[int]way {
	ways := map[int]way{from: {}}
	for better := true; better; {
		better = false
		for _, by := range c.states {
			first, found := ways[by]
			if !found {
				continue
			}
			for place, to := range c.leads[by] {
				if to < 0 {
					continue
				}
				longer := way{first.moved + weightOf(c.r, c.steps[place]), first.steps + 1}
				if w, found := ways[to]; !found || longer.moved < w.moved || longer.moved == w.moved && longer.steps < w.steps {
					ways[to] = longer
					better = true
				}
			}
		}
	}
	return ways
}

// leastOfAll is the least CostPlan of all plans that come to no state twice, gone through one by one; -1, if there is none. To come to a state twice moves no less.
func (c chart) leastOfAll(from, to int) int {
	least := -1
	var steps []impl.Step
	var been []int
	var walk func(bits int)
	walk = func(bits int) {
		if bits == to {
			if cost := impl.CostPlan(c.r, steps); least < 0 || cost < least {
				least = cost
			}
			return
		}
		been = append(been, bits)
		for place, then := range c.leads[bits] {
			if then >= 0 && !slices.Contains(been, then) {
				steps = append(steps, c.steps[place])
				walk(then)
				steps = steps[:len(steps)-1]
			}
		}
		been = been[:len(been)-1]
	}
	walk(from)
	return least
}

// heavyDock is at most eight packs, of each name one that is heavy and asks for little, and one that is light and needs others: so the fewest steps often move much.
func heavyDock(d *dice) impl.Repo {
	r := impl.Repo{Room: 100 + d.below(150)}
	names := []string{"a", "b", "c", "d"}
	for i, name := range names {
		other := func() string { return names[(i+1+d.below(3))%4] }
		heavy := impl.Pack{Name: name, Ver: 1, Size: 20 + d.below(60)}
		light := impl.Pack{Name: name, Ver: 2, Size: d.below(4)}
		light.Deps = [][]impl.Req{{req(other(), 1+d.below(2), 2), req(other(), 2, 2)}}
		for _, p := range []impl.Pack{heavy, light} {
			if d.below(2) == 0 {
				p.Pres = []impl.Req{req(other(), 1, 2)}
			}
			if d.below(4) == 0 {
				p.Bans = fewReqs(d, 1)
			}
			if d.below(5) > 0 {
				r.Packs = append(r.Packs, p)
			}
		}
	}
	return r
}

// errand is what PlanFind and CostLeast answered from one healthy state to another.
type errand struct {
	search
	least int
}

// errands is the errands between many states of all docks, and of heavy ones, made once for all tests: a list for each dock.
var errands = sync.OnceValue(func() [][]errand {
	all := slices.Clone(searches())
	d := dice(11)
	for range 200 {
		all = append(all, searchesIn(chartOf(heavyDock(&d)), 12))
	}
	var lists [][]errand
	for _, list := range all {
		var done []errand
		for _, f := range list {
			done = append(done, errand{f, impl.CostLeast(f.c.r, setOf(f.from), setOf(f.to))})
		}
		lists = append(lists, done)
	}
	return lists
})

// eachErrand goes over all errands.
func eachErrand(do func(e errand)) {
	for _, list := range errands() {
		for _, e := range list {
			do(e)
		}
	}
}

// stepDocks is packs of which each step is asked about.
func stepDocks() []impl.Repo {
	list := append(docks(), okRepos()...)
	d := dice(12)
	for range 20 {
		list = append(list, heavyDock(&d))
	}
	return list
}

func TestPromise45WhatComesInAndWhatGoesOut(t *testing.T) {
	for _, r := range stepDocks() {
		for _, s := range impl.StepAll(r) {
			if got := impl.CostOf(r, s); got != weightOf(r, s) {
				t.Fatalf("%v: %v moves %d, not %d", r, s, got, weightOf(r, s))
			}
		}
	}
	eachAllowed(t, func(r impl.Repo, set []int, s impl.Step, behind []int) {
		if got, want := impl.CostOf(r, s), impl.StateSize(r, setOf(bitsOf(set)^bitsOf(behind))); got != want {
			t.Fatalf("%v: from %v to %v %v moves %d, not %d", r, set, behind, s, got, want)
		}
	})
}

// TestOnlyStepsMove asks about all steps of small numbers, of which few are of StepAll.
func TestOnlyStepsMove(t *testing.T) {
	seen := map[int]int{}
	for _, r := range stepDocks() {
		if len(r.Packs) > 4 && r.Room%4 > 0 {
			continue
		}
		for kind := -1; kind <= 5; kind++ {
			for in := -2; in <= len(r.Packs)+1; in++ {
				for out := -2; out <= len(r.Packs)+1; out++ {
					s := impl.Step{Kind: kind, In: in, Out: out}
					want := weightOf(r, s)
					seen[min(want, 1)]++
					if got := impl.CostOf(r, s); got != want {
						t.Fatalf("%v: %v moves %d, not %d", r, s, got, want)
					}
					if got := impl.CostPlan(r, []impl.Step{s}); got != want {
						t.Fatalf("%v: %v alone moves %d, not %d", r, s, got, want)
					}
				}
			}
		}
	}
	if seen[-1] < 1000 || seen[0] < 100 || seen[1] < 1000 {
		t.Errorf("%d steps are none, %d move nothing, %d something", seen[-1], seen[0], seen[1])
	}
}

// checkCost asks CostPlan for just this sum, also cut anywhere.
func checkCost(t *testing.T, r impl.Repo, steps []impl.Step, want int) {
	t.Helper()
	if got := impl.CostPlan(r, steps); got != want {
		t.Fatalf("%v: %v move %d, not %d", r, brief(steps), got, want)
	}
	for cut := range len(steps) + 1 {
		if got := impl.CostPlan(r, steps[:cut]) + impl.CostPlan(r, steps[cut:]); got != want {
			t.Fatalf("%v: %v, cut behind %d, move %d, not %d", r, brief(steps), cut, got, want)
		}
	}
}

func TestPromise46AsMuchAsTheirParts(t *testing.T) {
	d := dice(13)
	for _, r := range stepDocks() {
		all := impl.StepAll(r)
		if len(all) == 0 {
			checkCost(t, r, nil, 0)
			continue
		}
		// Steps of a sum need not be allowed, nor lead anywhere.
		for _, n := range []int{0, 1, 2, 3, 5, 12} {
			var steps []impl.Step
			sum := 0
			for range n {
				s := all[d.below(len(all))]
				steps = append(steps, s)
				sum += impl.CostOf(r, s)
			}
			checkCost(t, r, steps, sum)
			backwards := slices.Clone(steps)
			slices.Reverse(backwards)
			checkCost(t, r, backwards, sum)
		}
	}
}

func TestPromise46AStepThatIsNone(t *testing.T) {
	d := dice(14)
	for _, r := range stepDocks() {
		all := impl.StepAll(r)
		for _, wrong := range wrongSteps(len(r.Packs)) {
			var steps []impl.Step
			if len(all) > 0 {
				for range d.below(6) {
					steps = append(steps, all[d.below(len(all))])
				}
			}
			for _, place := range []int{0, len(steps) / 2, len(steps)} {
				if got := impl.CostPlan(r, slices.Insert(slices.Clone(steps), place, wrong)); got != -1 {
					t.Fatalf("%v: %v, and at place %d %v, move %d", r, steps, place, wrong, got)
				}
			}
			if got := impl.CostOf(r, wrong); got != -1 {
				t.Fatalf("%v: %v moves %d", r, wrong, got)
			}
		}
	}
}

func TestPromise47TheLeast(t *testing.T) {
	for _, list := range errands() {
		asked := map[int]map[int]way{}
		for _, e := range list {
			if asked[e.from] == nil {
				asked[e.from] = e.c.leastWays(e.from)
			}
			want := -1
			if w, found := asked[e.from][e.to]; found {
				want = w.moved
			}
			if e.least != want {
				t.Fatalf("%v: from %v to %v %d must be moved, not %d", e.c.r, setOf(e.from), setOf(e.to), e.least, want)
			}
		}
	}
}

func TestPromise47OfAllPlans(t *testing.T) {
	asked := map[bool]int{}
	eachErrand(func(e errand) {
		if len(e.c.states) > 8 {
			return
		}
		asked[e.least >= 0]++
		if want := e.c.leastOfAll(e.from, e.to); e.least != want {
			t.Fatalf("%v: from %v to %v %d must be moved, but a plan moves %d", e.c.r, setOf(e.from), setOf(e.to), e.least, want)
		}
	})
	if asked[true] < 1000 || asked[false] < 200 {
		t.Errorf("%d errands with a plan, %d without", asked[true], asked[false])
	}
}

func TestPromise47NoWalkMovesLess(t *testing.T) {
	eachWalk(t, func(c chart, from int, steps []impl.Step) {
		end, ok := c.walk(from, steps)
		if !ok {
			return
		}
		least, cost := impl.CostLeast(c.r, setOf(from), setOf(end)), impl.CostPlan(c.r, steps)
		if least < 0 || cost < least || cost != weightOfAll(c.r, steps) {
			t.Fatalf("%v: from %v to %v %d must be moved, but %v move %d", c.r, setOf(from), setOf(end), least, steps, cost)
		}
	})
}

func TestPromise48ThereIsAPlan(t *testing.T) {
	none := 0
	for _, list := range errands() {
		reached := map[int][][]int{}
		for _, e := range list {
			if _, asked := reached[e.from]; !asked {
				reached[e.from] = impl.PlanReach(e.c.r, setOf(e.from))
			}
			among := slices.ContainsFunc(reached[e.from], func(set []int) bool { return slices.Equal(set, setOf(e.to)) })
			if (e.least >= 0) != e.ok || e.ok != among || e.least < -1 {
				t.Fatalf("%v: from %v to %v %d must be moved; there is a plan: %v", e.c.r, setOf(e.from), setOf(e.to), e.least, e.ok)
			}
			if !e.ok {
				none++
			}
		}
	}
	if none < 1000 {
		t.Errorf("only %d errands without a plan", none)
	}
}

func TestPromise49ByAThirdState(t *testing.T) {
	asked, as := 0, 0
	for _, list := range errands() {
		least := map[[2]int]int{}
		var ends []int
		for _, e := range list {
			least[[2]int{e.from, e.to}] = e.least
			if e.from == e.to {
				ends = append(ends, e.to)
			}
		}
		for both, whole := range least {
			for _, third := range ends {
				first, second := least[[2]int{both[0], third}], least[[2]int{third, both[1]}]
				if first < 0 || second < 0 {
					continue
				}
				asked++
				if whole < 0 || first+second < whole {
					t.Fatalf("%v: from %v to %v %d must be moved, but by %v %d and %d", list[0].c.r, setOf(both[0]), setOf(both[1]), whole, setOf(third), first, second)
				}
				if first > 0 && second > 0 && first+second == whole {
					as++
				}
			}
		}
	}
	if asked < 10000 || as < 1000 {
		t.Errorf("only %d ways by a third state, of which %d move as much", asked, as)
	}
}

func TestPromise50AtLeastWhatIsNotInBoth(t *testing.T) {
	just, more := 0, 0
	eachErrand(func(e errand) {
		if e.from == e.to && e.least != 0 {
			t.Fatalf("%v: from %v to itself %d must be moved", e.c.r, setOf(e.from), e.least)
		}
		if e.least < 0 {
			return
		}
		apart := impl.StateSize(e.c.r, setOf(e.from^e.to))
		if e.least < apart {
			t.Fatalf("%v: from %v to %v %d must be moved, less than %d", e.c.r, setOf(e.from), setOf(e.to), e.least, apart)
		}
		if e.least == apart {
			just++
		} else {
			more++
		}
	})
	if just < 1000 || more < 200 {
		t.Errorf("%d errands move just what is not in both, %d more", just, more)
	}
}

// TestFreePacksMoveJustWhatIsNotInBoth: with room for all, and nothing asked for, nothing is in the way.
func TestFreePacksMoveJustWhatIsNotInBoth(t *testing.T) {
	d := dice(15)
	for range 30 {
		r := impl.Repo{Room: 8 * 100}
		for i, name := range []string{"a", "a", "b", "b", "c", "d", "e", "f"} {
			r.Packs = append(r.Packs, impl.Pack{Name: name, Ver: i, Size: d.below(101)})
		}
		list := impl.StateList(r)
		for range 30 {
			from, to := list[d.below(len(list))], list[d.below(len(list))]
			want := roomOf(r, setOf(bitsOf(from)^bitsOf(to)))
			if got := impl.CostLeast(r, from, to); got != want {
				t.Fatalf("%v: from %v to %v %d must be moved, not %d", r, from, to, got, want)
			}
		}
	}
}

func TestPromise51AShortestPlan(t *testing.T) {
	dearer, longer, each := 0, 0, 0
	for _, list := range errands() {
		asked := map[int]map[int]way{}
		for _, e := range list {
			if !e.ok {
				continue
			}
			if asked[e.from] == nil {
				asked[e.from] = e.c.leastWays(e.from)
			}
			cost := impl.CostPlan(e.c.r, e.plan)
			if cost < e.least || cost != weightOfAll(e.c.r, e.plan) {
				t.Fatalf("%v: from %v to %v %d must be moved, but %v move %d", e.c.r, setOf(e.from), setOf(e.to), e.least, e.plan, cost)
			}
			if cost > e.least {
				dearer++
			}
			if cost > e.least && asked[e.from][e.to].steps > len(e.plan) {
				longer++
			}
			if slices.ContainsFunc(e.c.r.Packs, func(p impl.Pack) bool { return p.Size == 0 }) {
				continue
			}
			each++
			if len(e.plan) > e.least {
				t.Fatalf("%v: from %v to %v %d must be moved, by %v", e.c.r, setOf(e.from), setOf(e.to), e.least, e.plan)
			}
		}
	}
	if dearer < 200 || longer < 50 || each < 1000 {
		t.Errorf("%d shortest plans move more than must be, %d of them as only a longer one moves less; %d are of packs that all need room", dearer, longer, each)
	}
}

func TestPromise52TakenAsPut(t *testing.T) {
	swaps := 0
	for _, r := range stepDocks() {
		for i, p := range r.Packs {
			if in, out := impl.CostOf(r, put(i)), impl.CostOf(r, take(i)); in != out || in != p.Size {
				t.Fatalf("%v: to put %d in moves %d, to take it out %d", r, i, in, out)
			}
			for j, q := range r.Packs {
				want := impl.CostOf(r, take(i)) + impl.CostOf(r, put(j))
				if i == j || p.Name != q.Name {
					want = -1
				} else {
					swaps++
				}
				if got := impl.CostOf(r, swap(i, j)); got != want {
					t.Fatalf("%v: to swap %d for %d moves %d, not %d", r, i, j, got, want)
				}
			}
		}
	}
	if swaps < 1000 {
		t.Errorf("only %d swaps", swaps)
	}
}
