package tests

import (
	"fmt"
	"slices"
	"sync"
	"testing"

	"loop.example/drydock/impl"
)

// looking is what BmcFind answered of a dock: from one state to another, by so many steps at most.
type looking struct {
	c    chart
	from int
	to   int
	most int
	f    impl.Found
}

func (l looking) String() string {
	return fmt.Sprintf("%v: from %v to %v by %d steps at most: %s", l.c.r, setOf(l.from), setOf(l.to), l.most, toldFound(l.f))
}

func look(c chart, from, to, most int) looking {
	return looking{c, from, to, most, impl.BmcFind(c.r, setOf(from), setOf(to), most)}
}

// toldFound is the begin of what was found, as refutations may be long.
func toldFound(f impl.Found) string {
	text := fmt.Sprintf("code %d, steps %v, %d refutations:", f.Code, brief(f.Steps), len(f.Proofs))
	for _, proof := range brief(f.Proofs) {
		text += fmt.Sprintf(" %v (%d)", brief(proof), len(proof))
	}
	return text
}

// sameFound says whether the same was found.
func sameFound(a, b impl.Found) bool {
	return a.Code == b.Code && slices.Equal(a.Steps, b.Steps) && slices.EqualFunc(a.Proofs, b.Proofs, sameSets)
}

// copyFound is the same in memory of its own.
func copyFound(f impl.Found) impl.Found {
	again := impl.Found{Code: f.Code, Steps: slices.Clone(f.Steps)}
	for _, proof := range f.Proofs {
		again.Proofs = append(again.Proofs, behindAll(nil, proof))
	}
	return again
}

// planByWords is all steps that are the one in a model of plans of so many.
func planByWords(r impl.Repo, n int, model []bool) []impl.Step {
	s := scribe{r: r, n: n, steps: everyStep(r)}
	var steps []impl.Step
	for ahead := range n {
		for place, step := range s.steps {
			if model[s.one(place, ahead)-1] {
				steps = append(steps, step)
			}
		}
	}
	return steps
}

// foundByWords is what looking for a plan is to find, by the document's words, where all is as CodeOf needs it.
func foundByWords(r impl.Repo, from, to []int, most int) impl.Found {
	f := impl.Found{Code: impl.BmcNone}
	for n := range most + 1 {
		switch g := find(codeByWords(r, from, to, n), impl.SatMax); g.code {
		case impl.SatYes:
			f.Code, f.Steps = impl.BmcPlan, planByWords(r, n, g.model)
			return f
		case impl.SatNo:
			f.Proofs = append(f.Proofs, g.proof)
		default:
			return impl.Found{Code: impl.BmcLong}
		}
	}
	return f
}

// judge says by the document's words whether what came of a looking is right: the clauses of each number of steps are written once.
type judge struct {
	looking
	codes []impl.Cnf
}

func judgeOf(l looking) judge {
	j := judge{looking: l}
	for n := range impl.CodeMaxSteps + 1 {
		j.codes = append(j.codes, codeByWords(l.c.r, setOf(l.from), setOf(l.to), n))
	}
	return j
}

// right says whether it is right, if so many steps are looked for at most.
func (j judge) right(most int, f impl.Found) bool {
	if most < 0 || most > impl.CodeMaxSteps {
		return false
	}
	switch f.Code {
	case impl.BmcPlan:
		_, healthy := j.c.leads[j.from]
		if !healthy || len(f.Steps) > most || len(f.Proofs) != len(f.Steps) {
			return false
		}
		if end, leads := j.c.walk(j.from, f.Steps); !leads || end != j.to {
			return false
		}
	case impl.BmcNone:
		if len(f.Steps) > 0 || len(f.Proofs) != most+1 {
			return false
		}
	default:
		return false
	}
	for n, proof := range f.Proofs {
		if !impl.SatProof(j.codes[n], proof) {
			return false
		}
	}
	return true
}

// lookings is what was found in ordinary docks: of each number of steps plans that have just as many, fewer, and one more; and states between which there is none, some of them not healthy.
var lookings = sync.OnceValue(func() []looking {
	var list []looking
	d := dice(220)
	for _, c := range codeCharts() {
		all := 1 << len(c.r.Packs)
		for most := range impl.CodeMaxSteps + 1 {
			from := c.states[d.below(len(c.states))]
			near, _ := c.walk(from, c.thrownWalk(&d, from, most))
			next, _ := c.walk(from, c.thrownWalk(&d, from, most+1))
			for _, to := range []int{near, next, c.states[d.below(len(c.states))]} {
				list = append(list, look(c, from, to, most))
			}
			ends := []int{from, d.below(all), d.below(all)}
			list = append(list, look(c, ends[d.below(3)], ends[d.below(3)], most))
		}
	}
	return list
})

// farLookings is lookings for plans of three and of four steps, as most thrown ones are shorter: by just as many at most, and by all.
var farLookings = sync.OnceValue(func() []looking {
	var list []looking
	asked := map[int]int{}
	for _, c := range codeCharts() {
		for _, from := range some(c.states, 10) {
			for _, to := range some(c.states, 10) {
				n := c.shortest(from, to, impl.CodeMaxSteps)
				if n < 3 || asked[n] == 120 {
					continue
				}
				asked[n]++
				list = append(list, look(c, from, to, n), look(c, from, to, impl.CodeMaxSteps))
			}
		}
	}
	return list
})

// eachLooking goes over lookings with an answer, also those for long plans, of which there must be many of each number of steps: of a plan its own, else the most that were looked for.
func eachLooking(t *testing.T, code int, do func(l looking)) {
	t.Helper()
	asked := map[int]int{}
	for _, l := range slices.Concat(lookings(), farLookings()) {
		if l.f.Code != code {
			continue
		}
		if code == impl.BmcPlan {
			asked[len(l.f.Steps)]++
		} else {
			asked[l.most]++
		}
		do(l)
	}
	for n := range impl.CodeMaxSteps + 1 {
		if asked[n] < 100 {
			t.Errorf("only %d of %d steps", asked[n], n)
		}
	}
}

// shortest is how many steps the shortest plan has; -1, if there is none of so many at most.
func (c chart) shortest(from, to, most int) int {
	for n := range most + 1 {
		if c.leadsIn(from, to, n) {
			return n
		}
	}
	return -1
}

// wrecks is what might come of a looking, most of it wrong, some of it right still.
func wrecks(d *dice, l looking) []impl.Found {
	var list []impl.Found
	change := func(do func(f *impl.Found)) {
		f := copyFound(l.f)
		do(&f)
		list = append(list, f)
	}
	for _, code := range []int{0, impl.BmcPlan, impl.BmcNone, impl.BmcLong, 4, impl.BmcBad, 10, -1} {
		change(func(f *impl.Found) { f.Code = code })
		change(func(f *impl.Found) { *f = impl.Found{Code: code} })
	}
	for _, steps := range wrongPlans(d, l) {
		change(func(f *impl.Found) { f.Steps = steps })
		// As many refutations as there are steps, so that these alone are asked about.
		change(func(f *impl.Found) { f.Code, f.Steps, f.Proofs = impl.BmcPlan, steps, resized(f.Proofs, len(steps)) })
	}
	for n := range impl.CodeMaxSteps + 3 {
		change(func(f *impl.Found) { f.Proofs = resized(f.Proofs, n) })
	}
	change(func(f *impl.Found) { slices.Reverse(f.Proofs) })
	if len(l.f.Proofs) == 0 {
		return list
	}
	place := d.below(len(l.f.Proofs))
	change(func(f *impl.Found) { f.Proofs = slices.Delete(f.Proofs, place, place+1) })
	change(func(f *impl.Found) { f.Proofs[place] = f.Proofs[d.below(len(f.Proofs))] })
	for _, proof := range wrongProofs(d, l.f.Proofs[place]) {
		change(func(f *impl.Found) { f.Proofs[place] = proof })
	}
	return list
}

// resized is so many refutations: the last ones are left out, or others that refute only what cannot be at once stand behind.
func resized(proofs [][][]int, n int) [][][]int {
	for len(proofs) < n {
		proofs = append(proofs, [][]int{{}})
	}
	return proofs[:n]
}

// wrongPlans is steps that might be told instead of those that are; also some that lead there.
func wrongPlans(d *dice, l looking) [][]impl.Step {
	steps := l.f.Steps
	list := [][]impl.Step{nil, {{}}, {put(-1)}, {put(len(l.c.r.Packs))}, slices.Clone(steps[:max(len(steps)-1, 0)]), slices.Concat(steps, steps), make([]impl.Step, impl.PlanMax+1)}
	for n := range impl.CodeMaxSteps + 2 {
		list = append(list, l.c.thrownWalk(d, l.from, n))
	}
	if _, healthy := l.c.leads[l.to]; healthy {
		list = append(list, slices.Concat(steps, l.c.thrownWalk(d, l.to, 1+d.below(2))))
	}
	if _, healthy := l.c.leads[l.from]; healthy {
		for n := range impl.CodeMaxSteps + 1 {
			plans, _ := l.c.plansOf(l.from, l.to, n, 100)
			list = append(list, some(plans, 2)...)
		}
	}
	if len(steps) > 1 {
		turned := slices.Clone(steps)
		slices.Reverse(turned)
		list = append(list, turned, slices.Clone(steps[1:]))
	}
	return list
}

// wrongProofs is clauses that might be told instead of a refutation; also some that are one.
func wrongProofs(d *dice, proof [][]int) [][][]int {
	last := len(proof) - 1
	list := [][][]int{nil, {{}}, proof[:last], proof[1:], slices.Concat(proof, [][]int{{}}), slices.Concat([][]int{{}}, proof), slices.Concat(proof, [][]int{{1}}), slices.Concat([][]int{{1}}, proof), slices.Concat([][]int{{-1}}, proof), slices.Concat([][]int{{0}}, proof), slices.Concat([][]int{{1000}}, proof), many(2*impl.SatMax + 1), many(2*impl.SatMax + 2)}
	place := d.below(len(proof))
	list = append(list, slices.Delete(behindAll(nil, proof), place, place+1), shuffled(d, proof))
	if lits := len(proof[place]); lits > 0 {
		turned := behindAll(nil, proof)
		turned[place][d.below(lits)] *= -1
		list = append(list, turned)
	}
	return list
}
