package tests

import (
	"fmt"
	"slices"
	"sync"

	"loop.example/drydock/impl"
)

// cnf is clauses of so many variables.
func cnf(vars int, clauses ...[]int) impl.Cnf {
	return impl.Cnf{Vars: vars, Clauses: clauses}
}

// from1 is the numbers from 1 to n.
func from1(n int) []int {
	var list []int
	for i := range n {
		list = append(list, i+1)
	}
	return list
}

// times is each number so many times as great: with -1 the literals that say the opposite.
func times(n int, lits []int) []int {
	var list []int
	for _, lit := range lits {
		list = append(list, n*lit)
	}
	return list
}

// chain is clauses that say one behind the other, of each variable from 1 to n-1, that with it the next is so.
func chain(n int) [][]int {
	var list [][]int
	for v := 1; v < n; v++ {
		list = append(list, []int{-v, v + 1})
	}
	return list
}

// modelOf is of so many variables a model: those are so whose bits are set.
func modelOf(vars, bits int) []bool {
	model := make([]bool, vars)
	for i := range model {
		model[i] = bits>>i&1 == 1
	}
	return model
}

// allModels is all models of so many variables.
func allModels(vars int) [][]bool {
	var list [][]bool
	for bits := range 1 << vars {
		list = append(list, modelOf(vars, bits))
	}
	return list
}

// someModels is a few models of so many variables, of which there may be many.
func someModels(vars int) [][]bool {
	d := dice(vars)
	list := [][]bool{modelOf(vars, 0), modelOf(vars, -1)}
	for range 10 {
		list = append(list, modelOf(vars, d.below(1<<30)))
	}
	return list
}

// isSo says whether a literal is so in a model.
func isSo(model []bool, lit int) bool {
	return model[max(lit, -lit)-1] == (lit > 0)
}

// areSo says whether literals are all so in a model.
func areSo(model []bool, lits []int) bool {
	return !slices.ContainsFunc(lits, func(lit int) bool { return !isSo(model, lit) })
}

// allHold says whether all clauses hold in a model, by the document's words.
func allHold(c impl.Cnf, model []bool) bool {
	for _, clause := range c.Clauses {
		if !slices.ContainsFunc(clause, func(lit int) bool { return isSo(model, lit) }) {
			return false
		}
	}
	return true
}

// open is the literals of a clause, each once, of which it does not follow that they are not so.
func open(clause []int, follows map[int]int) []int {
	var list []int
	for _, lit := range clause {
		if follows[-lit] == 0 && !slices.Contains(list, lit) {
			list = append(list, lit)
		}
	}
	return list
}

// unitsOf is what follows at once from literals, and whether it cannot be, by the document's words: clauses are gone through again and again, until nothing more follows.
func unitsOf(c impl.Cnf, lits []int) ([]int, bool) {
	follows := map[int]int{}
	for _, lit := range lits {
		follows[lit] = 1
	}
	for more := true; more; {
		more = false
		for _, clause := range c.Clauses {
			if slices.ContainsFunc(clause, func(lit int) bool { return follows[lit] > 0 }) {
				continue
			}
			if left := open(clause, follows); len(left) == 1 {
				follows[left[0]] = 1
				more = true
			}
		}
	}
	var list []int
	for v := 1; v <= c.Vars; v++ {
		if follows[v] > 0 && follows[-v] > 0 {
			return nil, true
		}
		if follows[v] > 0 {
			list = append(list, v)
		}
		if follows[-v] > 0 {
			list = append(list, -v)
		}
	}
	if slices.ContainsFunc(c.Clauses, func(clause []int) bool { return len(open(clause, follows)) == 0 }) {
		return nil, true
	}
	return list, false
}

// copyCnf is clauses once more, in memory of their own.
func copyCnf(c impl.Cnf) impl.Cnf {
	again := impl.Cnf{Vars: c.Vars}
	for _, clause := range c.Clauses {
		again.Clauses = append(again.Clauses, slices.Clone(clause))
	}
	return again
}

// without is clauses but the one at a place.
func without(c impl.Cnf, place int) impl.Cnf {
	less := copyCnf(c)
	less.Clauses = slices.Delete(less.Clauses, place, place+1)
	return less
}

// shuffled is a list in another order.
func shuffled[T any](d *dice, list []T) []T {
	list = slices.Clone(list)
	for i := range list {
		j := i + d.below(len(list)-i)
		list[i], list[j] = list[j], list[i]
	}
	return list
}

// thrownLits is so many literals, also some twice, and both ways.
func thrownLits(d *dice, vars, n int) []int {
	var list []int
	for range n {
		lit := 1 + d.below(vars)
		if d.below(2) == 0 {
			lit = -lit
		}
		list = append(list, lit)
	}
	return list
}

// thrownCnf is so many clauses of at most so many literals; of very few variables, so that much stands there twice, or both ways.
func thrownCnf(d *dice, vars, n, most int) impl.Cnf {
	c := impl.Cnf{Vars: vars}
	for range n {
		lits := thrownLits(d, vars, 1+d.below(most))
		if d.below(60) == 0 {
			lits = nil
		}
		c.Clauses = append(c.Clauses, lits)
	}
	return c
}

// thrownChain is clauses that let much follow one behind the other from the first literal that is told: each clause asks for one literal, and says that some that came ahead are not so. Some end with what cannot be.
func thrownChain(d *dice, vars int) (impl.Cnf, int) {
	row := shuffled(d, from1(vars))
	for i := range row {
		if d.below(2) == 0 {
			row[i] = -row[i]
		}
	}
	c := impl.Cnf{Vars: vars}
	for i := 1; i < vars; i++ {
		clause := []int{row[i], -row[i-1]}
		for range d.below(4) {
			clause = append(clause, -row[d.below(i)])
		}
		c.Clauses = append(c.Clauses, shuffled(d, clause))
	}
	if d.below(3) == 0 {
		c.Clauses = append(c.Clauses, []int{-row[vars-1], -row[d.below(vars)]})
	}
	c.Clauses = shuffled(d, c.Clauses)
	return c, row[0]
}

// question is clauses and literals, and what CnfUnits answers of them.
type question struct {
	c     impl.Cnf
	lits  []int
	units []int
	no    bool
}

func ask(c impl.Cnf, lits []int) question {
	units, no := impl.CnfUnits(c, lits)
	return question{c, lits, units, no}
}

func (q question) String() string {
	return fmt.Sprintf("%d variables, clauses %v, of %v", q.c.Vars, brief(q.c.Clauses), brief(q.lits))
}

// smallCnfs is clauses of so few variables that all models can be gone through.
var smallCnfs = sync.OnceValue(func() []impl.Cnf {
	list := []impl.Cnf{
		{}, cnf(0, nil), cnf(1), cnf(8),
		cnf(1, []int{1, 1}), cnf(1, []int{1, -1}), cnf(2, []int{1, 1}, []int{-1, 2, -1, 2}), cnf(2, []int{}, []int{1, 2}),
		cnf(8, chain(8)...),
	}
	d := dice(20)
	for range 400 {
		list = append(list, thrownCnf(&d, 1+d.below(8), d.below(20), 4))
	}
	for range 100 {
		c, _ := thrownChain(&d, 2+d.below(7))
		list = append(list, c)
	}
	return list
})

// smallQuestions is what is asked of few variables.
var smallQuestions = sync.OnceValue(func() []question {
	var list []question
	d := dice(21)
	for _, c := range smallCnfs() {
		list = append(list, ask(c, nil))
		for range 6 {
			if c.Vars > 0 {
				list = append(list, ask(c, thrownLits(&d, c.Vars, 1+d.below(3))))
			}
		}
	}
	return list
})

// questions is those of few variables, and some of many, at the limits of clauses and variables among them.
var questions = sync.OnceValue(func() []question {
	list := slices.Clone(smallQuestions())
	d := dice(22)
	for range 60 {
		c, first := thrownChain(&d, 20+d.below(40))
		list = append(list, ask(c, nil), ask(c, []int{first}), ask(c, []int{-first}), ask(c, thrownLits(&d, c.Vars, 3)))
	}
	for range 60 {
		vars := 20 + d.below(40)
		c := thrownCnf(&d, vars, 2*vars, 3)
		c.Clauses = slices.DeleteFunc(c.Clauses, func(clause []int) bool { return len(clause) < 2 })
		list = append(list, ask(c, nil), ask(c, thrownLits(&d, vars, 1)), ask(c, thrownLits(&d, vars, 4)), ask(c, thrownLits(&d, vars, 8)))
	}
	c, first := thrownChain(&d, impl.CnfMaxVars)
	list = append(list, ask(c, []int{first}))
	for len(c.Clauses) < impl.CnfMaxClauses {
		c.Clauses = append(c.Clauses, thrownLits(&d, c.Vars, 8))
	}
	return append(list, ask(c, nil), ask(c, []int{first}), ask(c, thrownLits(&d, c.Vars, 5)))
})
