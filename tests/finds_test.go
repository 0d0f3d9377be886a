package tests

import (
	"fmt"
	"slices"
	"sync"
	"testing"

	"loop.example/drydock/impl"
)

// finding is what SatFind answered of clauses, with so many choices at most.
type finding struct {
	c     impl.Cnf
	most  int
	code  int
	model []bool
	proof [][]int
}

func find(c impl.Cnf, most int) finding {
	code, model, proof := impl.SatFind(c, most)
	return finding{c, most, code, model, proof}
}

func (f finding) String() string {
	return fmt.Sprintf("%d variables, clauses %v, at most %d choices: answer %d, model %v, refutation %v (%d)", f.c.Vars, brief(f.c.Clauses), f.most, f.code, brief(f.model), brief(f.proof), len(f.proof))
}

// as says whether two findings answer the same.
func (f finding) as(g finding) bool {
	return f.code == g.code && slices.Equal(f.model, g.model) && sameSets(f.proof, g.proof)
}

// hunt is the tests' own search: of all choices made it is asked anew what follows from them.
type hunt struct {
	finding
	made    int
	follows func(impl.Cnf, []int) ([]int, bool)
}

// behind is the answer of the search behind choices, by the document's words.
func (h *hunt) behind(choices []int) int {
	units, no := h.follows(h.c, choices)
	if no {
		h.proof = append(h.proof, times(-1, choices))
		return impl.SatNo
	}
	if len(units) == h.c.Vars {
		for _, lit := range units {
			h.model = append(h.model, lit > 0)
		}
		return impl.SatYes
	}
	if h.made == h.most {
		return impl.SatLong
	}
	h.made++
	least := 1
	for slices.Contains(units, least) || slices.Contains(units, -least) {
		least++
	}
	for _, lit := range []int{-least, least} {
		if code := h.behind(append(slices.Clone(choices), lit)); code != impl.SatNo {
			return code
		}
	}
	h.proof = append(h.proof, times(-1, choices))
	return impl.SatNo
}

// huntFor is the tests' own finding, and how many choices were made for it.
func huntFor(c impl.Cnf, most int, follows func(impl.Cnf, []int) ([]int, bool)) (finding, int) {
	h := hunt{finding: finding{c: c, most: most}, follows: follows}
	h.code = h.behind(nil)
	if h.code != impl.SatNo {
		h.proof = nil
	}
	return h.finding, h.made
}

// followsFrom says whether a clause follows at once from clauses and others: it cannot be that none of its literals is so.
func followsFrom(c impl.Cnf, ahead [][]int, clause []int) bool {
	_, no := unitsOf(cnf(c.Vars, slices.Concat(c.Clauses, ahead)...), times(-1, clause))
	return no
}

// refutes says whether clauses of literals are a refutation, by the document's words.
func refutes(c impl.Cnf, proof [][]int) bool {
	for i, clause := range proof {
		if !followsFrom(c, proof[:i], clause) {
			return false
		}
	}
	return len(proof) > 0 && len(proof) <= 2*impl.SatMax+1 && len(proof[len(proof)-1]) == 0
}

// modelsInOrder is all models of so many variables, the first one first: in it nothing is so, and what is not so of the least variable stands ahead.
func modelsInOrder(vars int) [][]bool {
	var list [][]bool
	for bits := range 1 << vars {
		model := modelOf(vars, bits)
		slices.Reverse(model)
		list = append(list, model)
	}
	return list
}

// firstModel is the first model from a place of all on in which all clauses hold, and its place; -1, if there is none.
func firstModel(c impl.Cnf, from int) ([]bool, int) {
	models := modelsInOrder(c.Vars)
	for place := from; place < len(models); place++ {
		if allHold(c, models[place]) {
			return models[place], place
		}
	}
	return nil, -1
}

// ahead says whether a model stands ahead of another one.
func ahead(a, b []bool) bool {
	for i := range a {
		if a[i] != b[i] {
			return b[i]
		}
	}
	return false
}

// litsOf is all literals that are so in a model.
func litsOf(model []bool) []int {
	var lits []int
	for i, so := range model {
		if so {
			lits = append(lits, i+1)
		} else {
			lits = append(lits, -i-1)
		}
	}
	return lits
}

// alone is a clause of its own of each literal.
func alone(lits []int) [][]int {
	var clauses [][]int
	for _, lit := range lits {
		clauses = append(clauses, []int{lit})
	}
	return clauses
}

// with is clauses with others behind them.
func with(c impl.Cnf, clauses ...[]int) impl.Cnf {
	more := copyCnf(c)
	for _, clause := range clauses {
		more.Clauses = append(more.Clauses, slices.Clone(clause))
	}
	return more
}

// allWays is all clauses that have each of some variables, one way or the other: they have no model, but one, whichever it is, without any of them. The first is of all as they are, the variables that stand last turn first.
func allWays(vars ...int) [][]int {
	clauses := [][]int{nil}
	for _, v := range vars {
		var more [][]int
		for _, clause := range clauses {
			more = append(more, append(slices.Clone(clause), v), append(slices.Clone(clause), -v))
		}
		clauses = more
	}
	return clauses
}

// behindAll is each clause with the same literals ahead of its own.
func behindAll(lits []int, clauses [][]int) [][]int {
	var list [][]int
	for _, clause := range clauses {
		list = append(list, slices.Concat(lits, clause))
	}
	return list
}

// wants is clauses that are refuted with just so many choices (3 at least). They have parts, with guards between them, which are the first variables: a part counts where as many guards are so as there are parts ahead of it; behind a guard that is not so none is. Behind the guards stands a variable that nothing is said of; behind that the variables that each part has all ways. A part of one variable cannot be at once. A part of k variables needs 2 to the power of k choices, but one: the last variable follows, but what nothing is said of is chosen. As there is one guard less than there are parts, all needs as many choices as the parts' powers tell together, but one.
func wants(n int) impl.Cnf {
	var parts []int
	for k := 11; k >= 2; k-- {
		for n+1-total(parts) >= 1<<k {
			parts = append(parts, k)
		}
	}
	for total(parts) < n+1 {
		parts = append(parts, 0)
	}
	guards := len(parts) - 1
	c := impl.Cnf{Vars: guards + 1 + parts[0]}
	for i, k := range parts {
		lits := times(-1, from1(i))
		if i < guards {
			lits = append(lits, i+1)
		}
		if i > 0 && i < guards {
			c.Clauses = append(c.Clauses, []int{i, -(i + 1)})
		}
		c.Clauses = append(c.Clauses, behindAll(lits, allWays(from1(c.Vars)[guards+1:][:max(k, 1)]...))...)
	}
	return c
}

// total is 2 to the power of each of some numbers, together.
func total(parts []int) int {
	sum := 0
	for _, k := range parts {
		sum += 1 << k
	}
	return sum
}

// doves is clauses that say that of so many doves each is in one of so many holes, and no two in the same.
func doves(n, holes int) impl.Cnf {
	c := impl.Cnf{Vars: n * holes}
	at := func(dove, hole int) int { return dove*holes + hole + 1 }
	for dove := range n {
		var some []int
		for hole := range holes {
			some = append(some, at(dove, hole))
			for other := range dove {
				c.Clauses = append(c.Clauses, []int{-at(other, hole), -at(dove, hole)})
			}
		}
		c.Clauses = append(c.Clauses, some)
	}
	return c
}

// evenCnf is so many clauses of just so many variables each.
func evenCnf(d *dice, vars, n, size int) impl.Cnf {
	c := impl.Cnf{Vars: vars}
	for range n {
		clause := shuffled(d, from1(vars))[:size]
		for i := range clause {
			clause[i] *= 1 - 2*d.below(2)
		}
		c.Clauses = append(c.Clauses, clause)
	}
	return c
}

// fewFindings is what is found of clauses of at most ten variables, with SatMax choices: about as many have a model as have none.
var fewFindings = sync.OnceValue(func() []finding {
	list := slices.Clone(smallCnfs())
	for n := range 7 {
		ways := cnf(n, allWays(from1(n)...)...)
		list = append(list, ways, cnf(n+3, ways.Clauses...), cnf(n+3, behindAll(nil, allWays(from1(n + 3)[3:]...))...))
		for i := range min(len(ways.Clauses), 3) {
			list = append(list, without(ways, i), without(ways, len(ways.Clauses)-1-i))
		}
	}
	list = append(list, doves(2, 1), doves(2, 2), doves(3, 2), doves(2, 3), doves(3, 3), cnf(10), cnf(10, chain(10)...), cnf(10, append(chain(10), []int{-10, -1}, []int{1, 10})...))
	d := dice(60)
	for range 300 {
		vars := 3 + d.below(8)
		list = append(list, evenCnf(&d, vars, vars*(3+d.below(5)), 3))
	}
	for range 60 {
		vars := 6 + d.below(5)
		list = append(list, evenCnf(&d, vars, vars*(8+d.below(8)), 4), evenCnf(&d, vars, vars*(18+d.below(12)), 5))
	}
	for range 100 {
		vars := 4 + d.below(7)
		c := thrownCnf(&d, vars, 4*vars, 5)
		c.Clauses = slices.DeleteFunc(c.Clauses, func(clause []int) bool { return len(clause) < 2 })
		list = append(list, c)
	}
	var all []finding
	for _, c := range list {
		all = append(all, find(c, impl.SatMax))
	}
	return all
})

// manyFindings is what is found of clauses of up to some sixty variables, with SatMax choices; some take too long.
var manyFindings = sync.OnceValue(func() []finding {
	list := []impl.Cnf{doves(4, 3), doves(4, 4), doves(5, 4), doves(6, 5), doves(3, 8), wants(3), wants(40), wants(500), cnf(60), cnf(60, chain(60)...)}
	d := dice(61)
	for range 60 {
		vars := 15 + d.below(20)
		list = append(list, evenCnf(&d, vars, vars*(3+d.below(4)), 3))
	}
	for range 20 {
		c := evenCnf(&d, 40, 170, 3)
		for range 40 {
			c.Clauses = append(c.Clauses, thrownLits(&d, 40, 2+d.below(30)))
		}
		list = append(list, c)
	}
	for range 40 {
		c, _ := thrownChain(&d, 20+d.below(40))
		list = append(list, c)
	}
	var all []finding
	for _, c := range list {
		all = append(all, find(c, impl.SatMax))
	}
	return all
})

// findings is those of few variables and of many.
func findings() []finding {
	return slices.Concat(fewFindings(), manyFindings())
}

// eachWith goes over all findings with an answer.
func eachWith(t *testing.T, code int, list []finding, do func(f finding)) {
	t.Helper()
	n := 0
	for _, f := range list {
		if f.code == code {
			n++
			do(f)
		}
	}
	if n < 100 {
		t.Errorf("only %d findings with answer %d", n, code)
	}
}
