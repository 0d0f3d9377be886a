package tests

import (
	"fmt"
	"math"
	"slices"
	"testing"

	"loop.example/drydock/impl"
)

// coreClauses is how many clauses there may be at most.
const coreClauses = 60

// checkModels asks for no core, so many models, and what is fixed in them.
func checkModels(t *testing.T, c impl.Cnf, count int, fixed ...int) {
	t.Helper()
	if k := coringOf(c); !k.as(coring{count: count, fixed: fixed}) {
		t.Errorf("%v; not %d models, %v fixed", k, count, brief(fixed))
	}
}

// checkCore asks for just this core, no model, and nothing fixed.
func checkCore(t *testing.T, c impl.Cnf, core ...int) {
	t.Helper()
	if k := coringOf(c); !k.as(coring{is: true, core: core}) {
		t.Errorf("%v; not the core %v", k, core)
	}
}

// checkNoCoring asks all three to refuse.
func checkNoCoring(t *testing.T, c impl.Cnf) {
	t.Helper()
	if k := coringOf(c); !k.as(coring{count: -1}) {
		t.Errorf("%v; not refused", k)
	}
}

// upTo is the numbers from 0 on, so many.
func upTo(n int) []int {
	var list []int
	for i := range n {
		list = append(list, i)
	}
	return list
}

func TestCoresOfNoVariables(t *testing.T) {
	checkModels(t, impl.Cnf{}, 1)
	checkModels(t, impl.Cnf{Clauses: [][]int{}}, 1)
	checkCore(t, cnf(0, nil), 0)
	checkCore(t, cnf(0, []int{}), 0)
	checkCore(t, cnf(0, nil, []int{}, nil), 2)
	checkCore(t, cnf(0, many(coreClauses)...), coreClauses-1)
	checkNoCoring(t, cnf(0, many(coreClauses+1)...))
	for _, lit := range []int{0, 1, -1, math.MaxInt, math.MinInt} {
		checkNoCoring(t, cnf(0, []int{lit}))
		checkNoCoring(t, cnf(0, nil, []int{lit}))
	}
}

func TestCoresOfAllVariablesThatThereMayBe(t *testing.T) {
	last := impl.CoreMaxVars
	all := from1(last)
	checkModels(t, cnf(last), 1024)
	checkModels(t, cnf(last, all), 1023)
	checkModels(t, cnf(last, times(-1, all)), 1023)
	checkModels(t, cnf(last, all, times(-1, all)), 1022)
	checkModels(t, cnf(last, []int{last}), 512, last)
	checkModels(t, cnf(last, []int{-last}), 512, -last)
	checkModels(t, cnf(last, []int{1}, []int{-last}), 256, 1, -last)
	checkModels(t, cnf(last, []int{1, last}), 768)
	checkModels(t, cnf(last, chain(last)...), 11)
	checkModels(t, cnf(last, append(chain(last), []int{5})...), 5, 5, 6, 7, 8, 9, 10)
	checkModels(t, cnf(last, append(chain(last), []int{-5})...), 6, -1, -2, -3, -4, -5)
	checkModels(t, cnf(last, append(chain(last), []int{1})...), 1, all...)
	checkModels(t, cnf(last, append(chain(last), []int{-last})...), 1, times(-1, all)...)
	checkModels(t, cnf(last, append(chain(last), []int{-last, 1})...), 2)
	checkCore(t, cnf(last, append(chain(last), []int{1}, []int{-last})...), upTo(last+1)...)
	checkCore(t, cnf(last, append(chain(last), []int{1}, []int{-5}, []int{-last})...), 0, 1, 2, 3, last-1, last)
	checkCore(t, cnf(last, append(chain(last), []int{1}, []int{-last}, []int{-5})...), 0, 1, 2, 3, last-1, last+1)
	checkCore(t, cnf(last, append([][]int{{1}, {-5}, {-last}}, chain(last)...)...), append([]int{0}, upTo(last + 2)[2:]...)...)
	checkCore(t, cnf(last, []int{last}, []int{-last}), 0, 1)
	for v := range last {
		checkCore(t, cnf(last, append(alone(all), []int{-v - 1})...), v, last)
	}
	// One variable more, whatever is said of it.
	for _, vars := range []int{last + 1, last + 2, 16, 17, 32, 64, 65, impl.CnfMaxVars} {
		checkNoCoring(t, cnf(vars))
		checkNoCoring(t, cnf(vars, nil))
		checkNoCoring(t, cnf(vars, []int{1}))
		checkNoCoring(t, cnf(vars, []int{1}, []int{-1}))
		checkNoCoring(t, cnf(vars, []int{vars}, []int{-vars}))
		checkNoCoring(t, cnf(vars, alone(from1(vars))[:min(vars, coreClauses)]...))
		if c := cnf(vars, []int{1}); !impl.CnfOk(c) {
			t.Errorf("%v is ok", c)
		}
	}
}

func TestCoresOfNoClauses(t *testing.T) {
	for vars := range impl.CoreMaxVars + 1 {
		checkModels(t, cnf(vars), 1<<vars)
		checkModels(t, impl.Cnf{Vars: vars, Clauses: [][]int{}}, 1<<vars)
	}
}

func TestCoresOfAllClausesThatThereMayBe(t *testing.T) {
	checkModels(t, cnf(3, many(coreClauses, 1, 2)...), 6)
	checkModels(t, cnf(3, many(coreClauses, 1)...), 4, 1)
	checkModels(t, cnf(3, append(many(coreClauses-1, 1, 2), []int{-1})...), 2, -1, 2)
	checkModels(t, cnf(3, slices.Insert(many(coreClauses-1, 1, 2), 0, []int{-1})...), 2, -1, 2)
	checkCore(t, cnf(3, append(many(coreClauses-1, 1), []int{-1})...), coreClauses-2, coreClauses-1)
	checkCore(t, cnf(3, slices.Insert(many(coreClauses-1, 1), 0, []int{-1})...), 0, coreClauses-1)
	checkCore(t, cnf(3, append(many(coreClauses-4, 1, 2, 3), allWays(1, 2)...)...), coreClauses-4, coreClauses-3, coreClauses-2, coreClauses-1)
	checkNoCoring(t, cnf(3, many(coreClauses+1, 1, 2)...))
	checkNoCoring(t, cnf(3, many(coreClauses+1, 1)...))
	checkNoCoring(t, cnf(3, many(coreClauses+1)...))
	checkNoCoring(t, cnf(3, append(many(coreClauses, 1), []int{-1})...))
	checkNoCoring(t, cnf(10, many(coreClauses+1, 1, -1)...))
	checkNoCoring(t, cnf(3, many(impl.CnfMaxClauses, 1)...))
	// All of them needed, also when one is left out, or one comes.
	d := dice(136)
	for vars := 6; vars <= impl.CoreMaxVars; vars++ {
		c := splitCnf(&d, vars, coreClauses)
		checkCore(t, c, upTo(coreClauses)...)
		checkNoCoring(t, with(c, c.Clauses[0]))
		for place := range c.Clauses {
			less := without(c, place)
			count := 1 << (vars - len(c.Clauses[place]))
			fixed := times(-1, c.Clauses[place])
			slices.SortFunc(fixed, func(a, b int) int { return max(a, -a) - max(b, -b) })
			checkModels(t, less, count, fixed...)
			checkCore(t, with(less, nil), coreClauses-1)
			checkNoCoring(t, with(c, nil))
		}
	}
	// As great as they may be.
	full := slices.Repeat(from1(10), impl.CnfMaxLits/10)
	checkModels(t, cnf(10, many(coreClauses, full...)...), 1023)
	checkModels(t, cnf(10, append(many(coreClauses-1, times(-1, full)...), full)...), 1022)
	checkCore(t, cnf(1, append(many(coreClauses-1, slices.Repeat([]int{1}, impl.CnfMaxLits)...), []int{-1})...), coreClauses-2, coreClauses-1)
	checkNoCoring(t, cnf(10, many(coreClauses, append(slices.Clone(full), 1)...)...))
	checkNoCoring(t, cnf(10, append(many(coreClauses-1, 1), append(slices.Clone(full), 1))...))
}

func TestCoresOfAnEmptyClause(t *testing.T) {
	for vars := range impl.CoreMaxVars + 1 {
		checkCore(t, cnf(vars, nil), 0)
		checkCore(t, cnf(vars, nil, nil), 1)
		checkCore(t, cnf(vars, nil, []int{}, nil), 2)
	}
	// Among others it is enough, wherever it stands.
	checkCore(t, cnf(2, nil, []int{1, 2}), 0)
	checkCore(t, cnf(2, []int{1, 2}, nil), 1)
	checkCore(t, cnf(2, []int{1}, []int{}, []int{2}), 1)
	checkCore(t, cnf(2, nil, []int{1}, nil, []int{2}), 2)
	checkCore(t, cnf(2, []int{1, -1}, nil), 1)
	// But if others are, the one whose clauses stand behind is left.
	checkCore(t, cnf(2, nil, []int{1}, []int{-1}), 1, 2)
	checkCore(t, cnf(2, []int{1}, nil, []int{-1}), 1)
	checkCore(t, cnf(2, []int{1}, []int{-1}, nil), 2)
	checkCore(t, cnf(2, append([][]int{nil, {1, 2, 1}, nil}, allWays(1, 2)...)...), 3, 4, 5, 6)
	checkCore(t, cnf(2, append(allWays(1, 2), nil, nil)...), 5)
}

func TestCoresOfClausesThatSayTheSame(t *testing.T) {
	checkCore(t, cnf(1, []int{1}, []int{1}, []int{-1}), 1, 2)
	checkCore(t, cnf(1, []int{1}, []int{-1}, []int{1}), 1, 2)
	checkCore(t, cnf(1, []int{-1}, []int{1}, []int{1}), 0, 2)
	checkCore(t, cnf(1, []int{1}, []int{1}, []int{-1}, []int{-1}), 1, 3)
	checkCore(t, cnf(1, []int{1}, []int{-1}, []int{1}, []int{-1}), 2, 3)
	checkModels(t, cnf(1, []int{1}, []int{1}), 1, 1)
	// With their literals in another order, or one literal twice.
	checkCore(t, cnf(2, []int{1, 2}, []int{2, 1}, []int{-1}, []int{-2}), 1, 2, 3)
	checkCore(t, cnf(2, []int{2, 1}, []int{-1}, []int{1, 2}, []int{-2}), 1, 2, 3)
	checkCore(t, cnf(2, []int{1, 2}, []int{-1}, []int{-2}, []int{1, 2, 1}), 1, 2, 3)
	checkCore(t, cnf(2, []int{1, 1, 2}, []int{-1}, []int{1, 2}, []int{-2}), 1, 2, 3)
	checkCore(t, cnf(2, []int{1, 2}, []int{-1, -1}, []int{-2}, []int{-1}), 0, 2, 3)
	checkCore(t, cnf(2, []int{1, 2}, []int{-1}, []int{-2}, []int{-1, -1}), 0, 2, 3)
	checkCore(t, cnf(2, []int{2, 1, 2}, []int{1, 2, 1, 2}, []int{2, 2, 1}, []int{-1}, []int{-2}), 2, 3, 4)
	checkModels(t, cnf(3, []int{1, 2}, []int{2, 1}, []int{2, 2, 1}), 6)
	checkModels(t, cnf(3, []int{2, 2}, []int{2}, []int{-3, -3, -3}, []int{-3}), 2, 2, -3)
	// Each of a core in turn once more, ahead or behind.
	ways := cnf(3, allWays(1, 2, 3)...)
	for place, clause := range ways.Clauses {
		turned := slices.Clone(clause)
		slices.Reverse(turned)
		behind := with(ways, turned)
		left := append(slices.Delete(upTo(8), place, place+1), 8)
		checkCore(t, behind, left...)
		ahead := cnf(3, slices.Concat([][]int{turned}, ways.Clauses)...)
		checkCore(t, ahead, upTo(9)[1:]...)
	}
}

func TestCoresOfAClauseThatHoldsAlways(t *testing.T) {
	for _, both := range [][]int{{1, -1}, {-1, 1}, {1, 1, -1}, {2, -1, 1}, {1, 2, -1}, {1, -1, 2, -2}, {3, 2, 3, -3}, {-2, 2}} {
		checkModels(t, cnf(3, both), 8)
		checkModels(t, cnf(3, both, both), 8)
		checkModels(t, cnf(3, both, []int{1}), 4, 1)
		checkModels(t, cnf(3, []int{-1}, []int{-2}, both), 2, -1, -2)
		checkModels(t, cnf(3, []int{-1}, both, []int{-2}, both, []int{-3}), 1, -1, -2, -3)
		checkModels(t, cnf(3, []int{1}, both, []int{2}, both, []int{3}), 1, 1, 2, 3)
		checkCore(t, cnf(3, both, nil), 1)
		checkCore(t, cnf(3, nil, both), 0)
		checkCore(t, cnf(3, both, []int{1}, []int{-1}), 1, 2)
		checkCore(t, cnf(3, []int{1}, both, []int{-1}), 0, 2)
		checkCore(t, cnf(3, []int{1}, []int{-1}, both), 0, 1)
		checkCore(t, cnf(3, both, []int{1, 2}, both, []int{-1}, both, []int{-2}, both), 1, 3, 5)
	}
}

func TestWhichOfSeveralCores(t *testing.T) {
	// Two that have no clause in common: the one whose first clause stands behind.
	checkCore(t, cnf(2, []int{1}, []int{-1}, []int{2}, []int{-2}), 2, 3)
	checkCore(t, cnf(2, []int{1}, []int{2}, []int{-1}, []int{-2}), 1, 3)
	checkCore(t, cnf(2, []int{1}, []int{2}, []int{-2}, []int{-1}), 1, 2)
	checkCore(t, cnf(2, []int{2}, []int{1}, []int{-1}, []int{-2}), 1, 2)
	// Also if it is greater: not the least core is told, but the one that is left.
	checkCore(t, cnf(3, []int{3}, []int{-3}, []int{1, 2}, []int{-1}, []int{-2}), 2, 3, 4)
	checkCore(t, cnf(3, []int{1, 2}, []int{-1}, []int{-2}, []int{3}, []int{-3}), 3, 4)
	checkCore(t, cnf(3, []int{3}, []int{1, 2}, []int{-1}, []int{-2}, []int{-3}), 1, 2, 3)
	checkCore(t, cnf(3, []int{1, 2}, []int{3}, []int{-3}, []int{-1}, []int{-2}), 1, 2)
	checkCore(t, cnf(4, slices.Concat([][]int{{4}, {-4}}, allWays(1, 2, 3))...), 2, 3, 4, 5, 6, 7, 8, 9)
	checkCore(t, cnf(4, slices.Concat([][]int{{4}}, allWays(1, 2, 3), [][]int{{-4}})...), upTo(9)[1:]...)
	checkCore(t, cnf(4, slices.Concat(allWays(1, 2, 3), [][]int{{4}, {-4}})...), 8, 9)
	// That have clauses in common.
	checkCore(t, cnf(3, []int{-1}, []int{1}, []int{1, 2}, []int{-2}), 0, 2, 3)
	checkCore(t, cnf(3, []int{-1}, []int{1, 2}, []int{-2}, []int{1}), 0, 3)
	checkCore(t, cnf(3, []int{3}, []int{1}, []int{1, 2}, []int{-1}, []int{-2}), 2, 3, 4)
	checkCore(t, cnf(3, []int{1}, []int{-1, 2}, []int{-2}, []int{-1, 3}, []int{-3}), 0, 3, 4)
	checkCore(t, cnf(3, []int{1}, []int{-1, 3}, []int{-3}, []int{-1, 2}, []int{-2}), 0, 3, 4)
	checkCore(t, cnf(3, []int{-3}, []int{1}, []int{-1, 3}, []int{-1, 2}, []int{-2}), 1, 3, 4)
	checkCore(t, cnf(3, []int{-2}, []int{-1, 2}, []int{-1, 3}, []int{-3}, []int{1}), 2, 3, 4)
	// Of clauses of one literal, and others that say it together, those that stand ahead go.
	checkCore(t, cnf(2, []int{1}, []int{-1, 2}, []int{-2}, []int{2}, []int{-1}), 2, 3)
	checkCore(t, cnf(2, []int{2}, []int{-2}, []int{1}, []int{-1, -2}, []int{-1, 2}), 2, 3, 4)
	checkCore(t, cnf(2, append([][]int{{1}, {2}}, allWays(1, 2)...)...), 2, 3, 4, 5)
	checkCore(t, cnf(2, append(allWays(1, 2), []int{1}, []int{2})...), 3, 4, 5)
	checkCore(t, cnf(2, append(allWays(-1, -2), []int{-1}, []int{-2})...), 3, 4, 5)
}

func TestCoresOfAllClausesAndOfOne(t *testing.T) {
	for n := range 6 {
		ways := cnf(n, allWays(from1(n)...)...)
		checkCore(t, ways, upTo(1<<n)...)
		slices.Reverse(ways.Clauses)
		checkCore(t, ways, upTo(1<<n)...)
		for place := range ways.Clauses {
			// Just the one model in which that clause does not hold.
			checkModels(t, without(ways, place), 1, times(-1, ways.Clauses[place])...)
			one := copyCnf(ways)
			one.Clauses[place] = nil
			checkCore(t, one, place)
		}
		checkCore(t, with(ways, nil), 1<<n)
	}
	checkCore(t, doves(3, 2), upTo(9)...)
	checkCore(t, doves(2, 1), 0, 1, 2)
	checkCore(t, cnf(3, []int{1, 2}, []int{-2, 3}, []int{-3, 1}, []int{-1, -2}, []int{2, -3}, []int{3, -1}), 0, 1, 2, 3, 4, 5)
}

func TestHowManyModels(t *testing.T) {
	checkModels(t, cnf(3, []int{1, 2}, []int{-1, 2}, []int{-3}), 2, 2, -3)
	checkModels(t, cnf(3, []int{1, 2}, []int{-1, 3}, []int{-3, -2}), 2)
	checkModels(t, cnf(3, []int{1, 2, 3}), 7)
	checkModels(t, cnf(3, []int{-1, 2}, []int{-2, 3}, []int{-3, 1}), 2)
	checkModels(t, cnf(4, []int{-1, -2}, []int{-1, -3}, []int{-1, -4}, []int{-2, -3}, []int{-2, -4}, []int{-3, -4}), 5)
	checkModels(t, doves(3, 3), 6)
	checkModels(t, doves(2, 3), 12)
	checkModels(t, doves(1, 10), 1023)
	// Just one, all of them, none.
	for vars := range impl.CoreMaxVars + 1 {
		for _, model := range [][]bool{modelOf(vars, 0), modelOf(vars, -1), modelOf(vars, 0x155), modelOf(vars, 0x263)} {
			lits := litsOf(model)
			checkModels(t, cnf(vars, alone(lits)...), 1, lits...)
			if vars > 1 {
				checkModels(t, cnf(vars, times(-1, lits)), 1<<vars-1)
				checkCore(t, cnf(vars, append(alone(lits), times(-1, lits))...), upTo(vars+1)...)
			}
		}
		checkModels(t, cnf(vars), 1<<vars)
		checkCore(t, cnf(vars, nil), 0)
	}
}

func TestVariablesOfWhichNoClauseSpeaks(t *testing.T) {
	for vars := 2; vars <= impl.CoreMaxVars; vars++ {
		checkModels(t, cnf(vars, []int{1}), 1<<(vars-1), 1)
		checkModels(t, cnf(vars, []int{-vars}), 1<<(vars-1), -vars)
		checkModels(t, cnf(vars, []int{2}, []int{-2, -1}), 1<<(vars-2), -1, 2)
		checkModels(t, cnf(vars, []int{1, 2}), 3<<(vars-2))
		checkModels(t, cnf(vars, []int{-vars, vars - 1}), 3<<(vars-2))
		checkCore(t, cnf(vars, []int{vars}, []int{-vars}), 0, 1)
		checkCore(t, cnf(vars, allWays(1, vars)...), 0, 1, 2, 3)
	}
	checkModels(t, cnf(5, []int{2}, []int{-4}), 8, 2, -4)
	checkModels(t, cnf(10, []int{3, 5}, []int{3, -5}, []int{-8}), 256, 3, -8)
}

func TestWhatIsFixed(t *testing.T) {
	// All, and none.
	checkModels(t, cnf(3, []int{1}, []int{-2}, []int{3}), 1, 1, -2, 3)
	checkModels(t, cnf(3, []int{3}, []int{-3, -2}, []int{2, 1}), 1, 1, -2, 3)
	checkModels(t, cnf(3, []int{-1, 2}, []int{-2, 1}), 4)
	checkModels(t, cnf(1), 2)
	// What does not follow at once.
	checkModels(t, cnf(2, []int{1, 2}, []int{1, -2}), 2, 1)
	checkModels(t, cnf(2, []int{-1, 2}, []int{-1, -2}), 2, -1)
	checkModels(t, cnf(2, allWays(1, 2)[:3]...), 1, 1, 2)
	checkModels(t, cnf(4, behindAll([]int{4}, allWays(1, 2, 3))...), 8, 4)
	checkModels(t, cnf(4, behindAll([]int{-4}, allWays(1, 2, 3))...), 8, -4)
	checkModels(t, cnf(3, []int{1, 2}, []int{-1, 3}, []int{-2, 3}), 3, 3)
	checkModels(t, cnf(10, append(behindAll([]int{10}, allWays(1, 2, 3, 4, 5)), []int{-10, -9})...), 256, -9, 10)
	for _, c := range []impl.Cnf{cnf(2, []int{1, 2}, []int{1, -2}), cnf(4, behindAll([]int{4}, allWays(1, 2, 3))...), cnf(3, []int{1, 2}, []int{-1, 3}, []int{-2, 3})} {
		if q := ask(c, nil); q.no || len(q.units) > 0 || len(impl.CoreFixed(c)) == 0 {
			t.Errorf("%v: %v follows at once", q, q.units)
		}
	}
	// What follows at once is told even where there is no model: but then nothing is fixed.
	late := cnf(3, append(allWays(1, 2), []int{3})...)
	if q := ask(late, nil); q.no || !slices.Equal(q.units, []int{3}) {
		t.Errorf("%v: %v", q, q.units)
	}
	checkCore(t, late, 0, 1, 2, 3)
}

func TestCoresOfClausesThatAreNotOk(t *testing.T) {
	for _, c := range wrongCnfs() {
		checkNoCoring(t, c)
	}
	last := impl.CoreMaxVars
	for _, wrong := range []int{0, last + 1, -last - 1, 16, 17, 32, 33, 63, 64, 65, -64, impl.CnfMaxVars, math.MaxInt, math.MinInt, math.MinInt + 1, 1 << 32, 1<<32 + 1} {
		for _, clause := range [][]int{{wrong}, {1, wrong}, {wrong, 1}, {1, -1, wrong}} {
			checkNoCoring(t, cnf(last, clause))
			checkNoCoring(t, cnf(last, []int{1}, []int{-1}, clause))
			checkNoCoring(t, cnf(last, clause, nil))
			checkNoCoring(t, cnf(last, append(many(coreClauses-1, 1), clause)...))
		}
	}
	checkNoCoring(t, cnf(last, slices.Repeat([]int{1}, impl.CnfMaxLits+1)))
	checkNoCoring(t, cnf(last, nil, slices.Repeat([]int{1, -1}, impl.CnfMaxLits)))
	checkModels(t, cnf(last, slices.Repeat([]int{1}, impl.CnfMaxLits)), 512, 1)
	checkModels(t, cnf(last, slices.Repeat([]int{1, -1}, impl.CnfMaxLits/2)), 1024)
}

func TestNothingIsWrittenIntoClausesOfACore(t *testing.T) {
	for _, k := range corings() {
		c, _, whole := roomyCnf(k.c, nil)
		before := whole()
		if l := coringOf(c); !l.as(k) || whole() != before {
			t.Fatalf("%v: an argument was changed, or with spare room it is %v", k, l)
		}
	}
	for _, wrong := range slices.Concat(wrongCnfs(), []impl.Cnf{cnf(3, many(coreClauses+1, 2, 1)...), cnf(impl.CoreMaxVars+1, []int{2, 1, 1}, nil)}) {
		c, _, whole := roomyCnf(wrong, nil)
		before := whole()
		if coringOf(c); whole() != before {
			t.Fatalf("%v: an argument was changed", brief(wrong.Clauses))
		}
	}
}

func TestCoresAreNewMemory(t *testing.T) {
	for _, k := range corings() {
		c, _, whole := roomyCnf(k.c, nil)
		before := whole()
		l := coringOf(c)
		spoilt(l.core)
		if again, is := impl.CoreOf(c); is != k.is || !slices.Equal(again, k.core) || !slices.Equal(l.fixed, k.fixed) {
			t.Fatalf("%v: two answers share memory", k)
		}
		spoilt(l.fixed)
		if again := coringOf(c); !again.as(k) || whole() != before {
			t.Fatalf("%v: an answer shares memory with another, or with the clauses", k)
		}
	}
	// Also where a core, or what is fixed, is just what a clause says.
	core := cnf(3, []int{1, 2}, []int{-1}, []int{-2})
	places, _ := impl.CoreOf(core)
	spoilt(places)
	fixed := cnf(2, []int{1, 2}, []int{1}, []int{2})
	spoilt(impl.CoreFixed(fixed))
	if fmt.Sprint(core, fixed) != "{3 [[1 2] [-1] [-2]]} {2 [[1 2] [1] [2]]}" {
		t.Errorf("%v, %v: changed", core, fixed)
	}
}

func TestNothingOfCoresIsKept(t *testing.T) {
	can, cannot := cnf(3, []int{1, 2}, []int{-1, 2}, []int{-3}), cnf(3, []int{3}, []int{1}, []int{1, 2}, []int{-1}, []int{-2})
	for range 3 {
		checkModels(t, can, 2, 2, -3)
		checkCore(t, cannot, 2, 3, 4)
		checkNoCoring(t, cnf(impl.CoreMaxVars+1))
		checkNoCoring(t, cnf(3, many(coreClauses+1, 1)...))
		checkModels(t, cnf(3), 8)
	}
	// What the caller changes behind a call counts in the next one.
	can.Clauses[1][1] = -2
	checkModels(t, can, 2, -3)
	can.Clauses[2] = nil
	checkCore(t, can, 2)
	cannot.Vars = 1
	checkNoCoring(t, cannot)
}
