package tests

import (
	"fmt"
	"slices"
	"sync"
	"testing"

	"loop.example/drydock/impl"
)

// coring is clauses, and what is answered of them: a core, if there is one, how many models they have, and what is fixed.
type coring struct {
	c     impl.Cnf
	core  []int
	is    bool
	count int
	fixed []int
}

// coringOf is what CoreOf, CoreCount and CoreFixed answer.
func coringOf(c impl.Cnf) coring {
	core, is := impl.CoreOf(c)
	return coring{c, core, is, impl.CoreCount(c), impl.CoreFixed(c)}
}

// as says whether two answer the same.
func (k coring) as(l coring) bool {
	return k.is == l.is && k.count == l.count && slices.Equal(k.core, l.core) && slices.Equal(k.fixed, l.fixed)
}

func (k coring) String() string {
	return fmt.Sprintf("%d variables, clauses %v (%d): core %v, %v, %d models, %v fixed", k.c.Vars, brief(k.c.Clauses), len(k.c.Clauses), k.core, k.is, k.count, brief(k.fixed))
}

// modelsWith is all models in which all clauses hold.
func modelsWith(c impl.Cnf) [][]bool {
	var list [][]bool
	for _, model := range allModels(c.Vars) {
		if allHold(c, model) {
			list = append(list, model)
		}
	}
	return list
}

// hasModel says whether clauses have a model, by going through all.
func hasModel(c impl.Cnf) bool {
	return slices.ContainsFunc(allModels(c.Vars), func(model []bool) bool { return allHold(c, model) })
}

// coringByWords is what the document's words ask to be answered of few clauses of few variables.
func coringByWords(c impl.Cnf) coring {
	models := modelsWith(c)
	k := coring{c: c, is: len(models) == 0, count: len(models)}
	if k.is {
		k.core = coreLeft(c)
		return k
	}
	for _, lit := range litsOf(models[0]) {
		if !slices.ContainsFunc(models, func(model []bool) bool { return !isSo(model, lit) }) {
			k.fixed = append(k.fixed, lit)
		}
	}
	return k
}

// coreLeft is the places of clauses that are left of such as have no model.
func coreLeft(c impl.Cnf) []int {
	gone := map[int]int{}
	rest := func() ([]int, impl.Cnf) {
		var places []int
		left := impl.Cnf{Vars: c.Vars}
		for place, clause := range c.Clauses {
			if gone[place] == 0 {
				places = append(places, place)
				left.Clauses = append(left.Clauses, clause)
			}
		}
		return places, left
	}
	for place := range c.Clauses {
		gone[place] = 1
		if _, left := rest(); hasModel(left) {
			gone[place] = 0
		}
	}
	places, _ := rest()
	return places
}

// at is the clauses at some places.
func at(c impl.Cnf, places []int) impl.Cnf {
	few := impl.Cnf{Vars: c.Vars}
	for _, place := range places {
		few.Clauses = append(few.Clauses, slices.Clone(c.Clauses[place]))
	}
	return few
}

// splitCnf is so many clauses (as many as there are models at most) in each model of which just one does not hold: so they are a core, all of them. Clauses are split in two by a variable that they do not have.
func splitCnf(d *dice, vars, n int) impl.Cnf {
	clauses := [][]int{nil}
	for len(clauses) < n {
		i := d.below(len(clauses))
		v := 1 + d.below(vars)
		if slices.Contains(clauses[i], v) || slices.Contains(clauses[i], -v) {
			continue
		}
		clauses = append(clauses, append(slices.Clone(clauses[i]), -v))
		clauses[i] = append(slices.Clone(clauses[i]), v)
	}
	for i := range clauses {
		clauses[i] = shuffled(d, clauses[i])
	}
	return cnf(vars, shuffled(d, clauses)...)
}

// looseCnf is clauses that nearly always have no model, with several cores: those of splitCnf, some with literals left out, some there twice, and others beside them.
func looseCnf(d *dice, vars, n int) impl.Cnf {
	c := splitCnf(d, vars, n)
	for i, clause := range c.Clauses {
		switch d.below(6) {
		case 0:
			c.Clauses[i] = clause[:len(clause)-len(clause)/3]
		case 1:
			c.Clauses = append(c.Clauses, shuffled(d, slices.Concat(clause, clause[:len(clause)/2])))
		case 2:
			c.Clauses = append(c.Clauses, thrownLits(d, vars, 1+d.below(4)))
		}
	}
	c.Clauses = shuffled(d, c.Clauses)
	c.Clauses = c.Clauses[:min(len(c.Clauses), coreClauses)]
	return c
}

// corings is what is answered of ordinary clauses, at most coreClauses of at most CoreMaxVars variables: many have a model, and many have none.
var corings = sync.OnceValue(func() []coring {
	var list []impl.Cnf
	for _, f := range fewFindings() {
		if len(f.c.Clauses) <= coreClauses {
			list = append(list, f.c)
		}
	}
	d := dice(130)
	for i := range 120 {
		vars := 1 + i%impl.CoreMaxVars
		n := 1 + d.below(min(1<<vars, coreClauses))
		list = append(list, splitCnf(&d, vars, n), without(splitCnf(&d, vars, n), d.below(n)), looseCnf(&d, vars, n), looseCnf(&d, vars, min(n, 20)))
	}
	for i := range 200 {
		vars := 2 + i%9
		list = append(list, evenCnf(&d, vars, d.below(61), 2), evenCnf(&d, vars, d.below(61), min(vars, 3)))
	}
	list = append(list, splitCnf(&d, 10, coreClauses), splitCnf(&d, 6, coreClauses), looseCnf(&d, 10, coreClauses), evenCnf(&d, 10, coreClauses, 4), evenCnf(&d, 10, coreClauses, 10))
	var all []coring
	for _, c := range list {
		all = append(all, coringOf(c))
	}
	return all
})

// eachCoring goes over those with a model, or without.
func eachCoring(t *testing.T, can bool, do func(k coring)) {
	t.Helper()
	n := 0
	for _, k := range corings() {
		if hasModel(k.c) == can {
			n++
			do(k)
		}
	}
	if n < 200 {
		t.Errorf("only %d of such clauses", n)
	}
}
