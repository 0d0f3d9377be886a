package tests

import (
	"fmt"
	"slices"
	"sync"
	"testing"

	"loop.example/drydock/impl"
)

// scribe writes the clauses of plans by the document's words.
type scribe struct {
	r       impl.Repo
	n       int
	steps   []impl.Step
	clauses [][]int
}

func (s *scribe) write(lits ...int) {
	s.clauses = append(s.clauses, append([]int{}, lits...))
}

// there is the variable of a pack that is there behind so many steps.
func (s *scribe) there(place, behind int) int {
	return behind*len(s.r.Packs) + place + 1
}

// one is the variable of a step that is the one behind so many others.
func (s *scribe) one(place, ahead int) int {
	return (s.n+1)*len(s.r.Packs) + ahead*len(s.steps) + place + 1
}

// fitting is, in order, each pack that fits one of some requests, as it is there behind so many steps.
func (s *scribe) fitting(reqs []impl.Req, behind int) []int {
	var vars []int
	for place, p := range s.r.Packs {
		if fitsOne(p, reqs) {
			vars = append(vars, s.there(place, behind))
		}
	}
	return vars
}

// room writes that there is room for so much more behind so many steps, other literals ahead.
func (s *scribe) room(more, behind int, lits ...int) {
	above := func(set []int) bool { return roomOf(s.r, set)+more > s.r.Room }
	for _, set := range allSets(len(s.r.Packs)) {
		is := above(set)
		for i := range set {
			is = is && !above(slices.Delete(slices.Clone(set), i, i+1))
		}
		if !is {
			continue
		}
		clause := slices.Clone(lits)
		for _, place := range set {
			clause = append(clause, -s.there(place, behind))
		}
		s.write(clause...)
	}
}

// end writes what is there, and what is not, behind so many steps.
func (s *scribe) end(set []int, behind int) {
	for place := range s.r.Packs {
		sign := -1
		if slices.Contains(set, place) {
			sign = 1
		}
		s.write(sign * s.there(place, behind))
	}
}

// state writes that what is there behind so many steps is healthy.
func (s *scribe) state(behind int) {
	for i, p := range s.r.Packs {
		it := s.there(i, behind)
		for j := range i {
			if s.r.Packs[j].Name == p.Name {
				s.write(-s.there(j, behind), -it)
			}
		}
		for _, row := range p.Deps {
			s.write(append([]int{-it}, s.fitting(row, behind)...)...)
		}
		for _, v := range s.fitting(p.Bans, behind) {
			if v != it {
				s.write(-it, -v)
			}
		}
	}
	s.room(0, behind)
}

// step writes that just one step is the one behind so many others, and what it asks for and does.
func (s *scribe) step(ahead int) {
	var all []int
	for i := range s.steps {
		for j := range i {
			s.write(-s.one(j, ahead), -s.one(i, ahead))
		}
		all = append(all, s.one(i, ahead))
	}
	s.write(all...)
	for place := range s.r.Packs {
		came := []int{s.there(place, ahead), -s.there(place, ahead+1)}
		went := []int{-s.there(place, ahead), s.there(place, ahead+1)}
		for i, step := range s.steps {
			if step.Kind != impl.StepTake && step.In == place {
				came = append(came, s.one(i, ahead))
			}
			if step.Kind != impl.StepPut && step.Out == place {
				went = append(went, s.one(i, ahead))
			}
		}
		s.write(came...)
		s.write(went...)
	}
	for i, step := range s.steps {
		x := -s.one(i, ahead)
		if step.Kind != impl.StepTake {
			s.write(x, -s.there(step.In, ahead))
			s.write(x, s.there(step.In, ahead+1))
			for _, q := range s.r.Packs[step.In].Pres {
				clause := append([]int{x}, s.fitting([]impl.Req{q}, ahead)...)
				if step.Kind == impl.StepSwap {
					clause = slices.DeleteFunc(clause, func(lit int) bool { return lit == s.there(step.Out, ahead) })
				}
				s.write(clause...)
			}
			s.room(s.r.Packs[step.In].Size, ahead, x)
		}
		if step.Kind != impl.StepPut {
			s.write(x, s.there(step.Out, ahead))
			s.write(x, -s.there(step.Out, ahead+1))
		}
	}
}

// codeByWords is the clauses of plans of so many steps, by the document's words, for states in form of packs that are ok and few enough.
func codeByWords(r impl.Repo, from, to []int, n int) impl.Cnf {
	s := scribe{r: r, n: n, steps: everyStep(r)}
	s.end(from, 0)
	s.end(to, n)
	for behind := range n + 1 {
		s.state(behind)
	}
	for ahead := range n {
		s.step(ahead)
	}
	return impl.Cnf{Vars: (n+1)*len(r.Packs) + n*len(s.steps), Clauses: s.clauses}
}

// modelByWords is the model of steps that are allowed, one behind the other, by the document's words.
func modelByWords(r impl.Repo, from []int, steps []impl.Step) []bool {
	s := scribe{r: r, n: len(steps), steps: everyStep(r)}
	model := make([]bool, (s.n+1)*len(r.Packs)+s.n*len(s.steps))
	set := from
	for ahead := range s.n + 1 {
		for _, place := range set {
			model[s.there(place, ahead)-1] = true
		}
		if ahead < s.n {
			model[s.one(slices.Index(s.steps, steps[ahead]), ahead)-1] = true
			set = behindOf(set, steps[ahead])
		}
	}
	return model
}

// thereIn is what is there in a model of plans of so many packs, behind so many steps.
func thereIn(model []bool, packs, behind int) []int {
	var set []int
	for place := range packs {
		if model[behind*packs+place] {
			set = append(set, place)
		}
	}
	return set
}

// sameCnf says whether clauses are the same, in order, their literals too.
func sameCnf(a, b impl.Cnf) bool {
	return a.Vars == b.Vars && sameSets(a.Clauses, b.Clauses)
}

// tightDock is at most five packs that fill the room, or nearly: it often hangs on one more whether there is room.
func tightDock(d *dice, most int) impl.Repo {
	r := thrownDock(d, most)
	sum := 0
	for i := range r.Packs {
		p := &r.Packs[i]
		p.Size = 1 + d.below(3)
		sum += p.Size
		// Much is asked of packs that all might be here: else hardly anything would be healthy.
		if d.below(2) == 0 {
			p.Deps = nil
		}
	}
	r.Room = max(0, sum-d.below(sum+3))
	return r
}

// codeCharts is docks of at most CodeMaxPacks packs with what leads where in them.
var codeCharts = sync.OnceValue(func() []chart {
	var list []chart
	for _, c := range charts() {
		if len(c.r.Packs) <= impl.CodeMaxPacks {
			list = append(list, c)
		}
	}
	d := dice(210)
	for i := range 100 {
		list = append(list, chartOf(tightDock(&d, 1+i%impl.CodeMaxPacks)))
	}
	return list
})

// plansOf is all plans of just so many steps from one state to another; nothing and false, if they are more than most.
func (c chart) plansOf(from, to, n, most int) ([][]impl.Step, bool) {
	if n == 0 && from != to {
		return nil, true
	}
	if n == 0 {
		return [][]impl.Step{nil}, true
	}
	var list [][]impl.Step
	for place, then := range c.leads[from] {
		if then < 0 {
			continue
		}
		rests, few := c.plansOf(then, to, n-1, most)
		if !few || len(list)+len(rests) > most {
			return nil, false
		}
		for _, rest := range rests {
			list = append(list, append([]impl.Step{c.steps[place]}, rest...))
		}
	}
	return list, true
}

// leadsIn says whether just so many steps lead from one state to another.
func (c chart) leadsIn(from, to, n int) bool {
	if _, healthy := c.leads[from]; !healthy {
		return false
	}
	row := map[int]int{from: 1}
	for range n {
		next := map[int]int{}
		for bits := range row {
			for _, then := range c.leads[bits] {
				if then >= 0 {
					next[then] = 1
				}
			}
		}
		row = next
	}
	return row[to] > 0
}

// coding is what CodeOf answers of packs, states and a number of steps, and what SatFind finds of that.
type coding struct {
	c    chart
	from int
	to   int
	n    int
	cnf  impl.Cnf
	f    finding
}

func (k coding) String() string {
	return fmt.Sprintf("%v: from %v to %v by %d steps: answer %d", k.c.r, setOf(k.from), setOf(k.to), k.n, k.f.code)
}

// codingOf is a coding of a dock; it must be one.
func codingOf(c chart, from, to, n int) coding {
	clauses, ok := impl.CodeOf(c.r, setOf(from), setOf(to), n)
	if !ok {
		panic(fmt.Sprintf("%v: no clauses from %v to %v by %d steps", c.r, from, to, n))
	}
	return coding{c, from, to, n, clauses, find(clauses, impl.SatMax)}
}

// codings is clauses of ordinary docks: of some there are plans, of some there are none; some states are not healthy.
var codings = sync.OnceValue(func() []coding {
	var list []coding
	d := dice(211)
	for _, c := range codeCharts() {
		for n := range impl.CodeMaxSteps + 1 {
			from := c.states[d.below(len(c.states))]
			// One that so many steps lead to, if any do; one that is healthy; and one that need not be.
			near, _ := c.walk(from, c.thrownWalk(&d, from, n))
			for _, to := range []int{near, c.states[d.below(len(c.states))], d.below(1 << len(c.r.Packs))} {
				list = append(list, codingOf(c, from, to, n))
			}
			list = append(list, codingOf(c, d.below(1<<len(c.r.Packs)), from, n))
		}
	}
	return list
})

// eachCoding goes over codings with an answer of SatFind.
func eachCoding(t *testing.T, code int, do func(k coding)) {
	t.Helper()
	asked := map[int]int{}
	for _, k := range codings() {
		if k.f.code == code {
			asked[k.n]++
			do(k)
		}
	}
	for n := range impl.CodeMaxSteps + 1 {
		if asked[n] < 100 {
			t.Errorf("only %d of %d steps", asked[n], n)
		}
	}
}

// eachShortWalk goes over thrown steps from healthy states of all docks, at most CodeMaxSteps, all allowed, with where they lead.
func eachShortWalk(t *testing.T, do func(c chart, from, to int, steps []impl.Step)) {
	t.Helper()
	asked := map[int]int{}
	d := dice(212)
	for _, c := range codeCharts() {
		for n := range impl.CodeMaxSteps + 1 {
			for _, from := range some(c.states, 4) {
				steps := c.thrownWalk(&d, from, n)
				to, _ := c.walk(from, steps)
				asked[len(steps)]++
				do(c, from, to, steps)
			}
		}
	}
	for n := range impl.CodeMaxSteps + 1 {
		if asked[n] < 200 {
			t.Errorf("only %d walks of %d steps", asked[n], n)
		}
	}
}
