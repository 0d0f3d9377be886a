package tests

import (
	"fmt"
	"math"
	"slices"
	"testing"

	"loop.example/drydock/impl"
)

// checkUnits asks CnfUnits for just these, and that they can be.
func checkUnits(t *testing.T, c impl.Cnf, lits []int, want ...int) {
	t.Helper()
	if q := ask(c, lits); q.no || !slices.Equal(q.units, want) {
		t.Errorf("%v %v, %v follows, not %v", q, brief(q.units), q.no, brief(want))
	}
}

// checkCannot asks CnfUnits to say that it cannot be.
func checkCannot(t *testing.T, c impl.Cnf, lits ...int) {
	t.Helper()
	if q := ask(c, lits); !q.no || len(q.units) > 0 {
		t.Errorf("%v %v, %v follows, but it cannot be", q, brief(q.units), q.no)
	}
}

// checkNoUnits asks CnfUnits for nothing and false.
func checkNoUnits(t *testing.T, c impl.Cnf, lits []int) {
	t.Helper()
	if q := ask(c, lits); q.no || len(q.units) > 0 {
		t.Errorf("%v %v, %v follows, but it is to be refused", q, brief(q.units), q.no)
	}
}

// many is one clause so many times.
func many(n int, clause ...int) [][]int {
	var list [][]int
	for range n {
		list = append(list, slices.Clone(clause))
	}
	return list
}

func TestOfNoVariables(t *testing.T) {
	for _, c := range []impl.Cnf{{}, {Clauses: [][]int{}}} {
		if !impl.CnfOk(c) || !impl.CnfTrue(c, nil) || !impl.CnfTrue(c, []bool{}) {
			t.Error("no variables and no clauses are ok, and hold")
		}
		if impl.CnfTrue(c, []bool{true}) || impl.CnfTrue(c, []bool{false}) {
			t.Error("a model of one variable where there is none")
		}
		checkUnits(t, c, nil)
		checkUnits(t, c, []int{})
		checkNoUnits(t, c, []int{1})
		checkNoUnits(t, c, []int{-1})
		checkNoUnits(t, c, []int{0})
	}
	for _, c := range []impl.Cnf{cnf(0, nil), cnf(0, []int{}), cnf(0, nil, nil)} {
		if !impl.CnfOk(c) || impl.CnfTrue(c, nil) {
			t.Error("an empty clause is ok, and does not hold")
		}
		checkCannot(t, c)
		checkNoUnits(t, c, []int{1})
	}
	for _, lit := range []int{0, 1, -1, math.MaxInt, math.MinInt} {
		if impl.CnfOk(cnf(0, []int{lit})) {
			t.Errorf("%d is no literal of no variables", lit)
		}
	}
}

func TestOfAllVariablesThatThereMayBe(t *testing.T) {
	all := from1(impl.CnfMaxVars)
	last := impl.CnfMaxVars
	so, not := modelOf(last, -1), modelOf(last, 0)
	free := cnf(last)
	if !impl.CnfOk(free) || !impl.CnfTrue(free, so) || !impl.CnfTrue(free, not) {
		t.Error("no clauses hold of all")
	}
	checkUnits(t, free, nil)
	checkUnits(t, free, all, all...)
	checkUnits(t, free, times(-1, all), times(-1, all)...)
	checkUnits(t, free, []int{last, 1, -2}, 1, -2, last)
	checkUnits(t, free, []int{-last}, -last)
	checkCannot(t, free, last, -last)
	checkCannot(t, cnf(last, []int{last}, []int{-last}))
	// All of one clause.
	long := cnf(last, all)
	if !impl.CnfOk(long) || !impl.CnfTrue(long, so) || impl.CnfTrue(long, not) {
		t.Error("a clause of all variables holds just if one of them is so")
	}
	for _, v := range all {
		model := modelOf(last, 0)
		model[v-1] = true
		if !impl.CnfTrue(long, model) {
			t.Errorf("it holds of %d alone", v)
		}
		others := slices.DeleteFunc(times(-1, all), func(lit int) bool { return lit == -v })
		want := times(-1, all)
		want[v-1] = v
		checkUnits(t, long, others, want...)
		checkUnits(t, long, others[1:], others[1:]...)
	}
	checkCannot(t, long, times(-1, all)...)
	checkUnits(t, cnf(last, times(-1, all)), all[:last-1], append(slices.Clone(all[:last-1]), -last)...)
	checkUnits(t, cnf(last, times(-1, all)), all[1:], append([]int{-1}, all[1:]...)...)
	// One behind the other, forth and back.
	row := cnf(last, chain(last)...)
	checkUnits(t, row, []int{1}, all...)
	checkUnits(t, row, []int{-last}, times(-1, all)...)
	checkUnits(t, row, []int{200}, all[199:]...)
	checkUnits(t, row, nil)
	checkCannot(t, row, 1, -last)
	checkUnits(t, row, []int{last, -1}, -1, last)
	row.Clauses = append(row.Clauses, []int{1})
	checkUnits(t, row, nil, all...)
	row.Clauses = append(row.Clauses, []int{-last, -1})
	checkCannot(t, row)
	slices.Reverse(row.Clauses)
	checkCannot(t, row)
}

func TestOfAllClausesThatThereMayBe(t *testing.T) {
	c := cnf(3, many(impl.CnfMaxClauses, 1, 2)...)
	if !impl.CnfOk(c) || !impl.CnfTrue(c, []bool{false, true, false}) || impl.CnfTrue(c, []bool{false, false, true}) {
		t.Error("CnfMaxClauses of them")
	}
	checkUnits(t, c, nil)
	checkUnits(t, c, []int{-1}, -1, 2)
	checkUnits(t, c, []int{-2}, 1, -2)
	checkCannot(t, c, -1, -2)
	// The last one counts, as the first does.
	for _, place := range []int{0, impl.CnfMaxClauses / 2, impl.CnfMaxClauses - 1} {
		c.Clauses[place] = []int{3}
		checkUnits(t, c, nil, 3)
		if impl.CnfTrue(c, []bool{true, true, false}) || !impl.CnfTrue(c, []bool{true, false, true}) {
			t.Errorf("the clause at %d does not count", place)
		}
		c.Clauses[place] = nil
		checkCannot(t, c)
		if !impl.CnfOk(c) || impl.CnfTrue(c, []bool{true, true, true}) {
			t.Errorf("the empty clause at %d does not count", place)
		}
		c.Clauses[place] = []int{4}
		if impl.CnfOk(c) || impl.CnfTrue(c, []bool{true, true, true}) {
			t.Errorf("the wrong clause at %d does not count", place)
		}
		checkNoUnits(t, c, []int{-1})
		c.Clauses[place] = []int{1, 2}
	}
	// All as great as they may be.
	all := from1(impl.CnfMaxLits)
	full := cnf(impl.CnfMaxVars, many(impl.CnfMaxClauses, all...)...)
	if !impl.CnfOk(full) || !impl.CnfTrue(full, modelOf(impl.CnfMaxVars, 1)) || impl.CnfTrue(full, modelOf(impl.CnfMaxVars, 0)) {
		t.Error("all limits met")
	}
	checkUnits(t, full, times(-1, all[1:]), append([]int{1}, times(-1, all[1:])...)...)
	checkCannot(t, full, times(-1, all)...)
	// One more of each.
	over := cnf(3, many(impl.CnfMaxClauses+1, 1, 2)...)
	if impl.CnfOk(over) || impl.CnfTrue(over, []bool{true, true, true}) || impl.CnfOk(cnf(0, many(impl.CnfMaxClauses+1)...)) {
		t.Error("one clause more than CnfMaxClauses")
	}
	checkNoUnits(t, over, []int{-1})
	checkNoUnits(t, over, nil)
	checkNoUnits(t, cnf(3, many(impl.CnfMaxClauses+1)...), nil)
}

func TestAnEmptyClause(t *testing.T) {
	for _, c := range []impl.Cnf{
		cnf(2, nil), cnf(2, []int{}), cnf(2, nil, []int{1, 2}), cnf(2, []int{1, 2}, nil), cnf(2, []int{1}, []int{}, []int{2}),
		cnf(2, []int{1, -1}, nil), cnf(2, nil, nil),
	} {
		if !impl.CnfOk(c) {
			t.Errorf("%v is ok", c)
		}
		for _, model := range allModels(2) {
			if impl.CnfTrue(c, model) {
				t.Errorf("%v holds of %v", c, model)
			}
		}
		checkCannot(t, c)
		checkCannot(t, c, 1)
		checkCannot(t, c, 1, 2)
		checkCannot(t, c, 1, -1)
		checkNoUnits(t, c, []int{3})
		checkNoUnits(t, c, []int{1, 0})
	}
}

func TestAClauseOfOneLiteral(t *testing.T) {
	for _, lit := range []int{2, -2} {
		for _, clause := range [][]int{{lit}, {lit, lit}, {lit, lit, lit}, many(impl.CnfMaxLits, lit)[0]} {
			c := cnf(3, clause)
			checkUnits(t, c, nil, lit)
			checkUnits(t, c, []int{lit}, lit)
			checkUnits(t, c, []int{3, -1}, -1, lit, 3)
			checkCannot(t, c, -lit)
			checkCannot(t, cnf(3, clause, []int{-lit}))
			checkCannot(t, cnf(3, []int{-lit, -lit}, clause))
			checkUnits(t, cnf(3, clause, clause), nil, lit)
			for _, model := range allModels(3) {
				if impl.CnfTrue(c, model) != isSo(model, lit) {
					t.Errorf("%v of %v", c, model)
				}
			}
		}
	}
}

func TestALiteralTwiceInAClause(t *testing.T) {
	// Alone there it is a clause of one literal, however often it stands.
	for n := range impl.CnfMaxLits {
		clause := slices.Repeat([]int{-1}, n+1)
		checkUnits(t, cnf(1, clause), nil, -1)
		checkCannot(t, cnf(1, clause), 1)
	}
	// Beside others it is one of them, wherever it stands.
	for _, clause := range [][]int{{1, 1, 2}, {1, 2, 1}, {2, 1, 1}, {1, 1, 2, 2}, {1, 2, 1, 2}, {2, 1, 1, 2}, {2, 2, 1}, {2, 2, 2, 1, 1}, {2, 1, 2, 2}} {
		c := cnf(3, clause)
		checkUnits(t, c, nil)
		checkUnits(t, c, []int{3}, 3)
		checkUnits(t, c, []int{-1}, -1, 2)
		checkUnits(t, c, []int{-2}, 1, -2)
		checkUnits(t, c, []int{1}, 1)
		checkUnits(t, c, []int{2}, 2)
		checkCannot(t, c, -1, -2)
		checkUnits(t, cnf(3, clause, []int{-1, -1, 3}, []int{-2, 3, -2}), nil)
		checkCannot(t, cnf(3, clause, []int{-1, -1, 3}, []int{-2, 3, -2}), -3)
	}
	for _, clause := range [][]int{{1, 1, 2, 3}, {1, 2, 1, 3}, {1, 2, 3, 1}, {2, 1, 1, 3}, {2, 1, 3, 1}, {2, 3, 1, 1}, {1, 1, 1, 2, 2, 3, 3}} {
		c := cnf(3, clause)
		checkUnits(t, c, []int{-1}, -1)
		checkUnits(t, c, []int{-2}, -2)
		checkUnits(t, c, []int{-2, -3}, 1, -2, -3)
		checkUnits(t, c, []int{-1, -2}, -1, -2, 3)
		checkUnits(t, c, []int{-3, -1}, -1, 2, -3)
		checkCannot(t, c, -1, -2, -3)
	}
}

func TestAClauseWithAVariableBothWays(t *testing.T) {
	for _, clause := range [][]int{{1, -1}, {-1, 1}, {1, 1, -1}, {-1, 1, -1, 1}, {1, -1, 2}, {2, 1, -1}, {1, 2, -1}, {2, 3, -1, 1}, {1, 2, 3, -1}, {2, 2, 1, 3, -1}, {1, -1, 2, -2}} {
		c := cnf(3, clause)
		for _, model := range allModels(3) {
			if !impl.CnfTrue(c, model) {
				t.Errorf("%v holds of all, also of %v", c, model)
			}
		}
		// Nothing follows from it: one of both ways is open as long as the other is.
		checkUnits(t, c, nil)
		for _, lits := range [][]int{{1}, {-1}, {-2}, {2}, {-2, -3}, {1, -2, -3}, {-1, -2, -3}, {2, 3}} {
			checkUnits(t, c, lits, lits...)
		}
		checkCannot(t, c, 1, -1)
		checkUnits(t, cnf(3, clause, []int{1}), nil, 1)
		checkUnits(t, cnf(3, clause, []int{-1}), nil, -1)
	}
}

func TestAClauseOfAllLiteralsThatThereMayBe(t *testing.T) {
	row := from1(impl.CnfMaxLits)
	twice := slices.Concat(from1(impl.CnfMaxLits/2), from1(impl.CnfMaxLits/2))
	alone := slices.Repeat([]int{1}, impl.CnfMaxLits)
	for _, clause := range [][]int{row, twice, alone} {
		c := cnf(impl.CnfMaxVars, clause)
		if !impl.CnfOk(c) || !impl.CnfTrue(c, modelOf(c.Vars, 1)) || impl.CnfTrue(c, modelOf(c.Vars, 0)) {
			t.Errorf("a clause of CnfMaxLits literals, %v ..", brief(clause))
		}
		checkUnits(t, c, []int{1}, 1)
		checkCannot(t, c, times(-1, clause)...)
		c.Clauses = append(c.Clauses, append(slices.Clone(clause), 1))
		if impl.CnfOk(c) || impl.CnfTrue(c, modelOf(c.Vars, 1)) {
			t.Errorf("a clause of one literal more than CnfMaxLits, %v ..", brief(clause))
		}
		checkNoUnits(t, c, []int{1})
		checkNoUnits(t, c, nil)
		slices.Reverse(c.Clauses)
		checkNoUnits(t, c, []int{1})
	}
	checkUnits(t, cnf(impl.CnfMaxVars, alone), nil, 1)
	checkUnits(t, cnf(impl.CnfMaxVars, twice), nil)
}

func TestHowManyLiteralsAreGiven(t *testing.T) {
	c := cnf(3, []int{-1, 2})
	checkUnits(t, c, nil)
	checkUnits(t, c, []int{})
	checkUnits(t, c, slices.Repeat([]int{1}, impl.CnfMaxLits), 1, 2)
	checkUnits(t, c, slices.Repeat([]int{1, 3}, impl.CnfMaxLits/2), 1, 2, 3)
	last := append(slices.Repeat([]int{3}, impl.CnfMaxLits-1), 1)
	checkUnits(t, c, last, 1, 2, 3)
	checkCannot(t, c, append(slices.Repeat([]int{3}, impl.CnfMaxLits-1), -3)...)
	checkNoUnits(t, c, append(last, 1))
	checkNoUnits(t, c, slices.Repeat([]int{1}, impl.CnfMaxLits+1))
	checkNoUnits(t, c, append(slices.Repeat([]int{3}, impl.CnfMaxLits), -3))
	checkNoUnits(t, c, slices.Repeat([]int{-1}, 100000))
	checkNoUnits(t, cnf(impl.CnfMaxVars), append(from1(impl.CnfMaxVars), 1))
}

func TestGivenLiteralsTwiceAndBothWays(t *testing.T) {
	c := cnf(4, []int{-1, 2}, []int{-2, -3})
	checkUnits(t, c, []int{1, 1}, 1, 2, -3)
	checkUnits(t, c, []int{1, 4, 1, 4, 1}, 1, 2, -3, 4)
	checkUnits(t, c, []int{-3, 1, 2}, 1, 2, -3)
	for _, lits := range [][]int{{1, -1}, {-1, 1}, {4, -4}, {1, 4, -4}, {4, 1, -4, 4}, {-4, 2, 2, 4}} {
		checkCannot(t, c, lits...)
		checkCannot(t, cnf(4), lits...)
	}
	// One of them follows from another.
	checkCannot(t, c, 1, -2)
	checkCannot(t, c, -2, 1)
	checkCannot(t, c, 3, 1)
	checkCannot(t, c, 1, 3)
}

func TestWhatFollowsOnlyBySeveralClauses(t *testing.T) {
	// With 1 and 2 comes 3, with 3 and 4 comes 5, with 5 goes 6, without 6 comes 7.
	clauses := [][]int{{-1, -2, 3}, {-3, -4, 5}, {-5, -6}, {6, 7}}
	d := dice(11)
	for range 24 {
		c := cnf(7, shuffled(&d, clauses)...)
		checkUnits(t, c, nil)
		checkUnits(t, c, []int{1}, 1)
		checkUnits(t, c, []int{2, 1}, 1, 2, 3)
		checkUnits(t, c, []int{1, 2, 4}, 1, 2, 3, 4, 5, -6, 7)
		checkUnits(t, c, []int{4, 2, 1}, 1, 2, 3, 4, 5, -6, 7)
		checkUnits(t, c, []int{6, 4, 1}, 1, -2, -3, 4, -5, 6)
		checkUnits(t, c, []int{-7, 2, 4}, -1, 2, -3, 4, -5, 6, -7)
		checkCannot(t, c, 1, 2, 4, 6)
		checkCannot(t, c, -7, 1, 2, 4)
		// By a clause of one literal as by one that is given.
		checkUnits(t, cnf(7, shuffled(&d, append(slices.Clone(clauses), []int{1}, []int{4}))...), []int{2}, 1, 2, 3, 4, 5, -6, 7)
	}
	// Not all that is so in each model follows at once.
	two := cnf(2, []int{1, 2}, []int{1, -2})
	checkUnits(t, two, nil)
	checkUnits(t, two, []int{2}, 1, 2)
	checkCannot(t, two, -1)
	// And not all that is so in no model cannot be at once.
	checkUnits(t, cnf(2, []int{1, 2}, []int{1, -2}, []int{-1, 2}, []int{-1, -2}), nil)
}

func TestWhatCannotBeOnlyBehindSeveralClauses(t *testing.T) {
	d := dice(12)
	for n := 2; n < 40; n++ {
		for _, end := range [][]int{{-n}, {-n, -1}, {-n, -n}, {-n, -1, -n, -1}, {-(n + 1) / 2, -n}} {
			clauses := append(chain(n), end)
			c := cnf(n, shuffled(&d, clauses)...)
			checkCannot(t, c, 1)
			checkCannot(t, cnf(n, shuffled(&d, append(clauses, []int{1}))...))
		}
		// A variable both ways by two rows.
		split := slices.Concat(chain(n), [][]int{{-1, n + 1}, {-(n + 1), n + 2}, {-(n + 2), -n}})
		c := cnf(n+2, shuffled(&d, split)...)
		checkCannot(t, c, 1)
		checkUnits(t, c, nil)
		checkUnits(t, c, []int{-1}, -1)
	}
}

// wrongCnfs is clauses that are not ok, each for one reason, some with what cannot be beside.
func wrongCnfs() []impl.Cnf {
	list := []impl.Cnf{
		{Vars: -1}, {Vars: math.MinInt}, {Vars: impl.CnfMaxVars + 1}, {Vars: math.MaxInt},
		cnf(-1, nil), cnf(-1, []int{1}), cnf(impl.CnfMaxVars+1, nil), cnf(impl.CnfMaxVars+1, []int{1}), cnf(-3, []int{1, 2, 3}), cnf(math.MinInt, []int{1}),
		cnf(3, many(impl.CnfMaxClauses+1, 1)...), cnf(3, slices.Repeat([]int{1}, impl.CnfMaxLits+1)),
	}
	for _, wrong := range []int{0, 4, -4, 5, 400, -400, 401, math.MaxInt, math.MinInt, math.MinInt + 1, 1 << 32, 1<<32 + 1, -1 << 32, 256 + 1} {
		list = append(list,
			cnf(3, []int{wrong}), cnf(3, []int{1, 2, wrong}), cnf(3, []int{wrong, 1, 1}), cnf(3, []int{1}, []int{-2, 3}, []int{wrong}),
			cnf(3, []int{1}, []int{-1}, []int{wrong, 2}), cnf(3, nil, []int{wrong}), cnf(3, []int{1, wrong, -1}, []int{}))
	}
	return list
}

func TestClausesThatAreNotOk(t *testing.T) {
	for _, c := range wrongCnfs() {
		if impl.CnfOk(c) {
			t.Errorf("%d variables, %v, are ok", c.Vars, brief(c.Clauses))
		}
		for _, vars := range []int{0, 1, 3, impl.CnfMaxVars, impl.CnfMaxVars + 1} {
			if impl.CnfTrue(c, modelOf(vars, -1)) || impl.CnfTrue(c, modelOf(vars, 0)) {
				t.Errorf("%d variables, %v, hold", c.Vars, brief(c.Clauses))
			}
		}
		for _, lits := range [][]int{nil, {1}, {-1}, {1, -1}, {0}, {3, 2, 1}} {
			checkNoUnits(t, c, lits)
		}
	}
	// Each of them has others beside it that are ok.
	for _, c := range []impl.Cnf{cnf(impl.CnfMaxVars), cnf(3, []int{3, -3}), cnf(400, []int{400}, []int{-400}), cnf(3, many(impl.CnfMaxClauses, 1)...), cnf(3, slices.Repeat([]int{1}, impl.CnfMaxLits))} {
		if !impl.CnfOk(c) {
			t.Errorf("%d variables, %v, are not ok", c.Vars, brief(c.Clauses))
		}
	}
}

func TestGivenNumbersThatAreNoLiterals(t *testing.T) {
	for _, c := range []impl.Cnf{cnf(3), cnf(3, []int{1, 2}, []int{-1, 3}), cnf(3, nil), cnf(3, []int{1}, []int{-1})} {
		for _, wrong := range []int{0, 4, -4, 5, 400, -400, 401, -401, math.MaxInt, math.MinInt, math.MinInt + 1, 1<<32 + 1} {
			for _, lits := range [][]int{{wrong}, {1, wrong}, {wrong, 1}, {1, 2, 3, wrong}, {1, -1, wrong}, {wrong, -2, 2}, {wrong, wrong}} {
				checkNoUnits(t, c, lits)
			}
		}
	}
	checkUnits(t, cnf(3), []int{3, -1}, -1, 3)
	for _, wrong := range []int{0, 401, -401, math.MinInt, math.MaxInt} {
		checkNoUnits(t, cnf(impl.CnfMaxVars), []int{wrong})
	}
}

func TestModelsThatAreTooShortOrTooLong(t *testing.T) {
	for _, c := range []impl.Cnf{{}, cnf(1), cnf(3), cnf(3, []int{1}), cnf(3, []int{-3}, []int{-1, 2}), cnf(impl.CnfMaxVars), cnf(impl.CnfMaxVars, []int{1, 400})} {
		for _, n := range []int{0, 1, 2, 3, 4, impl.CnfMaxVars - 1, impl.CnfMaxVars, impl.CnfMaxVars + 1, 100000} {
			for _, bits := range []int{0, -1, 1} {
				if model := modelOf(n, bits); impl.CnfTrue(c, model) != (n == c.Vars && allHold(c, model)) {
					t.Errorf("%v of %d variables", c, n)
				}
			}
		}
	}
	if impl.CnfTrue(cnf(3), nil) || impl.CnfTrue(cnf(3, []int{1}), nil) {
		t.Error("no model where there are variables")
	}
}

// roomyCnf is clauses and literals with spare room behind each list, and what tells all of both, the spare room too.
func roomyCnf(c impl.Cnf, lits []int) (impl.Cnf, []int, func() string) {
	spare := func(list []int) []int {
		return append(slices.Clone(list), 77, 78)[:len(list)]
	}
	again := impl.Cnf{Vars: c.Vars}
	for _, clause := range c.Clauses {
		again.Clauses = append(again.Clauses, spare(clause))
	}
	again.Clauses = append(slices.Clone(again.Clauses), []int{79})[:len(c.Clauses)]
	lits = spare(lits)
	return again, lits, func() string {
		var all [][]int
		for _, clause := range again.Clauses {
			all = append(all, clause[:len(clause)+2])
		}
		return fmt.Sprint(lits[:len(lits)+2], again.Vars, again.Clauses[:len(c.Clauses)+1], all)
	}
}

func TestNothingIsWrittenIntoClausesAndLiterals(t *testing.T) {
	for _, q := range questions() {
		c, lits, whole := roomyCnf(q.c, q.lits)
		before := whole()
		units, no := impl.CnfUnits(c, lits)
		if no != q.no || !slices.Equal(units, q.units) {
			t.Fatalf("%v: with spare room %v, %v, not %v, %v", q, units, no, q.units, q.no)
		}
		// Nor is anything behind the answer that belongs to an argument.
		spoilt(units)
		model := append(modelOf(c.Vars, 5), true, false)
		kept := slices.Clone(model)
		impl.CnfOk(c)
		impl.CnfTrue(c, model[:c.Vars])
		if !slices.Equal(model, kept) || whole() != before {
			t.Fatalf("%v: an argument was changed", q)
		}
	}
	for _, c := range wrongCnfs() {
		c, lits, whole := roomyCnf(c, []int{1, 1, -1})
		before := whole()
		impl.CnfUnits(c, lits)
		impl.CnfOk(c)
		impl.CnfTrue(c, modelOf(3, -1))
		if whole() != before {
			t.Fatalf("%v: an argument was changed", c)
		}
	}
}

func TestWhatFollowsIsNewMemory(t *testing.T) {
	for _, q := range questions() {
		// The answer may be just what was given: it is not that list all the same.
		given := slices.Clone(q.units)
		first, _ := impl.CnfUnits(q.c, given)
		spoilt(first)
		if !q.no && !slices.Equal(given, q.units) {
			t.Fatalf("%v: the answer is what was given", q)
		}
		if second := ask(q.c, q.lits); second.no != q.no || !slices.Equal(second.units, q.units) {
			t.Fatalf("%v: two answers share memory", q)
		}
	}
}

func TestNothingOfClausesIsKept(t *testing.T) {
	c := cnf(3, []int{-1, 2}, []int{-2, 3})
	other := cnf(3, []int{-1, -2}, []int{1, 1})
	for range 3 {
		checkUnits(t, c, []int{1}, 1, 2, 3)
		checkUnits(t, other, nil, 1, -2)
		checkCannot(t, c, 1, -3)
		checkNoUnits(t, c, []int{1, 4})
		checkUnits(t, c, nil)
		checkUnits(t, c, []int{-3}, -1, -2, -3)
	}
	// What the caller changes behind a call counts in the next one.
	c.Clauses[1][1] = -3
	checkUnits(t, c, []int{1}, 1, 2, -3)
	c.Vars = 2
	checkNoUnits(t, c, []int{1})
}
