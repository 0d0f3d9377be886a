package tests

import (
	"slices"
	"sync"
	"testing"

	"loop.example/drydock/impl"
)

// chart is what leads where between the healthy states of packs, by the tests' own reckoning. States are their bits there.
type chart struct {
	r      impl.Repo
	steps  []impl.Step
	states []int
	leads  map[int][]int // of each state where each of steps leads, -1 where it is not allowed
}

func bitsOf(set []int) int {
	bits := 0
	for _, i := range set {
		bits |= 1 << i
	}
	return bits
}

func chartOf(r impl.Repo) chart {
	c := chart{r: r, steps: everyStep(r), leads: map[int][]int{}}
	for bits, set := range allSets(len(r.Packs)) {
		if unserved(r, set) != "" {
			continue
		}
		c.states = append(c.states, bits)
		c.leads[bits] = []int{}
		for _, s := range c.steps {
			to := -1
			if refusal(r, set, s) == "" {
				to = bitsOf(behindOf(set, s))
			}
			c.leads[bits] = append(c.leads[bits], to)
		}
	}
	return c
}

// walk is where steps lead from a state; false, if one of them is not allowed.
func (c chart) walk(bits int, steps []impl.Step) (int, bool) {
	for _, s := range steps {
		place := slices.Index(c.steps, s)
		if place < 0 || c.leads[bits][place] < 0 {
			return 0, false
		}
		bits = c.leads[bits][place]
	}
	return bits, true
}

// firstPlans is of each state from which there is a plan to another the first of its shortest ones, as places of steps. In each round the plans are one step longer: a step, and a plan of the round ahead.
func (c chart) firstPlans(to int) map[int][]int {
	plans := map[int][]int{to: {}}
	for {
		longer := map[int][]int{}
		for _, from := range c.states {
			if _, found := plans[from]; found {
				continue
			}
			for place, then := range c.leads[from] {
				rest, found := plans[then]
				if !found {
					continue
				}
				plan := append([]int{place}, rest...)
				if best, has := longer[from]; !has || slices.Compare(plan, best) < 0 {
					longer[from] = plan
				}
			}
		}
		if len(longer) == 0 {
			return plans
		}
		for from, plan := range longer {
			plans[from] = plan
		}
	}
}

// stepsAt is the steps at places.
func (c chart) stepsAt(places []int) []impl.Step {
	var steps []impl.Step
	for _, place := range places {
		steps = append(steps, c.steps[place])
	}
	return steps
}

// reach is all states that can be come to, ascending: what is not there yet, but one step from what is, comes in until there is none.
func (c chart) reach(from int) []int {
	list := []int{from}
	for i := 0; i < len(list); i++ {
		for _, to := range c.leads[list[i]] {
			if to >= 0 && !slices.Contains(list, to) {
				list = append(list, to)
			}
		}
	}
	slices.Sort(list)
	return list
}

// thrownWalk is so many steps, one behind the other, all of them allowed; fewer, if none is.
func (c chart) thrownWalk(d *dice, bits int, n int) []impl.Step {
	var steps []impl.Step
	for range n {
		var open []int
		for place, to := range c.leads[bits] {
			if to >= 0 {
				open = append(open, place)
			}
		}
		if len(open) == 0 {
			break
		}
		place := open[d.below(len(open))]
		steps = append(steps, c.steps[place])
		bits = c.leads[bits][place]
	}
	return steps
}

// some is at most so many of a list, spread over it, its first and its last among them.
func some[T any](list []T, n int) []T {
	if len(list) <= n {
		return slices.Clone(list)
	}
	var few []T
	for i := range n {
		few = append(few, list[i*(len(list)-1)/(n-1)])
	}
	return few
}

// longDocks is packs between whose states there are plans of more than twenty steps.
func longDocks() []impl.Repo {
	var list []impl.Repo
	for _, text := range []string{
		"room 6\npack a 1 4\npre d 1 1\npack a 3 0\ndep a 3 3 c 2 3 e 1 3\nban c 1 1 d 0 1\npack b 1 2\ndep e 1 1 b 0 1 b 3 3\npre a 1 2\nban c 3 3\npack c 1 1\ndep d 1 2 e 3 3 e 0 3\npack c 2 3\npre a 3 3\npack d 1 0\ndep c 0 2\npack d 2 1\npre c 1 1\npack d 3 3\nban b 0 2 a 0 3\n",
		"room 10\npack a 2 3\ndep d 3 3 c 1 3 e 0 0\nban d 2 3\npack a 3 2\npre d 2 3 b 0 2\npack b 1 2\npre a 1 2 a 2 2\npack b 3 2\npre d 1 1\npack c 1 4\nban b 3 3 a 2 3\npack c 3 4\ndep e 1 3 c 1 3\npre d 3 3\npack d 1 2\ndep b 1 3 a 3 3 d 3 3\npre a 3 3\npack d 3 4\npre c 0 1\n",
	} {
		r, _ := impl.RepoRead(text)
		list = append(list, r)
	}
	return list
}

// charts is all docks with what leads where in them, worked out once for all tests.
var charts = sync.OnceValue(func() []chart {
	var list []chart
	for _, r := range append(docks(), longDocks()...) {
		list = append(list, chartOf(r))
	}
	return list
})

// search is what PlanFind answered from one healthy state to another.
type search struct {
	c    chart
	from int
	to   int
	plan []impl.Step
	ok   bool
}

// searchesIn is the searches between at most so many states of a dock, each with each.
func searchesIn(c chart, n int) []search {
	var list []search
	for _, to := range some(c.states, n) {
		for _, from := range some(c.states, n) {
			plan, ok := impl.PlanFind(c.r, setOf(from), setOf(to))
			list = append(list, search{c, from, to, plan, ok})
		}
	}
	return list
}

// searches is the searches between many states of all docks, made once for all tests: a list for each of charts.
var searches = sync.OnceValue(func() [][]search {
	var all [][]search
	for _, c := range charts() {
		all = append(all, searchesIn(c, 16))
	}
	return all
})

// eachFound goes over all searches in which a plan was found.
func eachFound(t *testing.T, do func(f search)) {
	t.Helper()
	lengths := map[int]int{}
	for _, list := range searches() {
		for _, f := range list {
			if f.ok {
				lengths[min(len(f.plan), 9)]++
				do(f)
			}
		}
	}
	for length := range 10 {
		if lengths[length] < 20 {
			t.Errorf("only %d plans of %d steps", lengths[length], length)
		}
	}
}
