package tests

import (
	"fmt"
	"math"
	"slices"
	"testing"

	"loop.example/drydock/impl"
)

// checkYes asks SatFind for a model, in which just these variables are so.
func checkYes(t *testing.T, c impl.Cnf, most int, so ...int) {
	t.Helper()
	model := modelOf(c.Vars, 0)
	for _, v := range so {
		model[v-1] = true
	}
	if f := find(c, most); !f.as(finding{code: impl.SatYes, model: model}) {
		t.Errorf("%v, not the model in which %v are so", f, brief(so))
	}
}

// checkNo asks SatFind for a refutation, and SatProof to take it.
func checkNo(t *testing.T, c impl.Cnf, most int, proof ...[]int) {
	t.Helper()
	if f := find(c, most); !f.as(finding{code: impl.SatNo, proof: proof}) {
		t.Errorf("%v, not refuted by %v", f, brief(proof))
	}
	checkProof(t, true, c, proof...)
}

// checkNeither asks SatFind for an answer with nothing beside it.
func checkNeither(t *testing.T, c impl.Cnf, most, code int) {
	t.Helper()
	if f := find(c, most); !f.as(finding{code: code}) {
		t.Errorf("%v, not %d and nothing beside", f, code)
	}
}

// checkProof asks SatProof whether clauses are a refutation.
func checkProof(t *testing.T, want bool, c impl.Cnf, proof ...[]int) {
	t.Helper()
	if impl.SatProof(c, proof) != want {
		t.Errorf("%d variables, clauses %v: is %v (%d) a refutation? %v", c.Vars, brief(c.Clauses), brief(proof), len(proof), want)
	}
}

// deepest is clauses of so many variables that are refuted only behind choices of all but the last one: not all are not so, and none is so.
func deepest(n int) (impl.Cnf, [][]int) {
	row := from1(n - 1)
	c := cnf(n, append(slices.Clone(row), n), append(slices.Clone(row), -n))
	for _, v := range row {
		c.Clauses = append(c.Clauses, []int{-v, n}, []int{-v, -n})
	}
	proof := [][]int{row}
	for i := n - 2; i >= 0; i-- {
		proof = append(proof, append(slices.Clone(row[:i]), -row[i]), slices.Clone(row[:i]))
	}
	return c, proof
}

// timesAll is times of each list.
func timesAll(n int, lists [][]int) [][]int {
	var all [][]int
	for _, lits := range lists {
		all = append(all, times(n, lits))
	}
	return all
}

// needsAll is clauses of which a model is found with just SatMax choices: instead of the last part, in which nothing can be, all is so.
func needsAll() impl.Cnf {
	c := wants(impl.SatMax)
	last := c.Clauses[len(c.Clauses)-1]
	guards := last[:len(last)-1]
	c.Clauses = append(c.Clauses[:len(c.Clauses)-2], behindAll(guards, alone(from1(c.Vars)[len(guards):]))...)
	return c
}

func TestModelsOfNoVariables(t *testing.T) {
	for _, most := range []int{0, 1, impl.SatMax} {
		checkYes(t, impl.Cnf{}, most)
		checkYes(t, impl.Cnf{Clauses: [][]int{}}, most)
		for _, c := range []impl.Cnf{cnf(0, nil), cnf(0, []int{}), cnf(0, nil, nil)} {
			checkNo(t, c, most, nil)
			checkProof(t, true, c, []int{}, nil)
			checkProof(t, false, c, []int{1}, nil)
			checkProof(t, false, c, []int{0}, nil)
			checkProof(t, false, c)
		}
		checkNeither(t, cnf(0, []int{1}), most, impl.SatBad)
		checkNeither(t, cnf(0, nil, []int{-1}), most, impl.SatBad)
	}
	checkProof(t, false, impl.Cnf{})
	checkProof(t, false, impl.Cnf{}, nil)
	checkProof(t, false, impl.Cnf{}, nil, nil)
}

func TestModelsOfAllVariablesThatThereMayBe(t *testing.T) {
	last := impl.CnfMaxVars
	all := from1(last)
	checkYes(t, cnf(last), last)
	checkYes(t, cnf(last), impl.SatMax)
	checkNeither(t, cnf(last), last-1, impl.SatLong)
	checkNeither(t, cnf(last), 0, impl.SatLong)
	checkYes(t, cnf(last, all), last-1, last)
	checkNeither(t, cnf(last, all), last-2, impl.SatLong)
	checkYes(t, cnf(last, []int{last}), last-1, last)
	// From one all others follow: forth, none needs to be so; back, none may be, if one is not; and all are, if the last must be.
	checkYes(t, cnf(last, chain(last)...), last)
	checkYes(t, cnf(last, append(chain(last), []int{1})...), 0, all...)
	checkYes(t, cnf(last, append(chain(last), []int{1, last})...), last-1, last)
	back := cnf(last, timesAll(-1, chain(last))...)
	checkYes(t, back, 1)
	checkYes(t, with(back, []int{last}), 0, all...)
	checkYes(t, with(back, []int{1, last}), 2, 1)
	checkNo(t, with(back, []int{last}, []int{-1, -200}), 0, nil)
	checkNo(t, with(back, []int{1, last}, []int{-1, last}, []int{-200, -300}), 1, []int{1}, []int{-1}, nil)
	// As deep as may be.
	c, proof := deepest(last)
	checkNo(t, c, last-1, proof...)
	checkNo(t, c, impl.SatMax, proof...)
	checkNeither(t, c, last-2, impl.SatLong)
	// Without what lets the first not be so, it is.
	checkYes(t, without(without(c, 3), 2), 2*(last-1), 1)
	// What cannot be behind all others takes too long.
	late := cnf(last, allWays(last-1, last)...)
	checkNeither(t, late, impl.SatMax, impl.SatLong)
	checkProof(t, true, late, []int{last}, nil)
	checkProof(t, true, late, all, []int{last}, nil)
	checkProof(t, true, late, times(-1, all), []int{-last + 1}, nil)
	checkProof(t, false, late, all, times(-1, all), nil)
	checkProof(t, false, late, []int{last + 1}, []int{last}, nil)
}

func TestFindOrdinaryClauses(t *testing.T) {
	checkYes(t, cnf(3, []int{1, 2}, []int{-1, 3}, []int{-3, -2}), 1, 2)
	checkYes(t, cnf(3, []int{2}, []int{-1, 3}, []int{-3, -2}), 0, 2)
	checkYes(t, cnf(2, []int{1, 2}), 1, 2)
	checkYes(t, cnf(2, []int{2, 1}, []int{1, -2}), 2, 1)
	checkYes(t, cnf(4, []int{1, 2, 3, 4}), 3, 4)
	checkYes(t, cnf(4, []int{1, 2, 3}, []int{2, -3}), 4, 2)
	checkYes(t, cnf(4, []int{-1, -2}, []int{3, 4}, []int{1, -4}, []int{2, -3}), 1, 2, 3)
	checkYes(t, doves(3, 3), 9, 3, 5, 7)
	checkNo(t, doves(2, 1), 0, nil)
	checkNo(t, doves(3, 2), 1, []int{1}, []int{-1}, nil)
	checkNo(t, cnf(3, []int{1, 2}, []int{-2, 3}, []int{-3, 1}, []int{-1, -2}, []int{2, -3}, []int{3, -1}), 1, []int{1}, []int{-1}, nil)
	checkNo(t, cnf(4, append(allWays(3, 4), []int{1, 2})...), 5, []int{1, 3}, []int{1, -3}, []int{1}, []int{-1, 2, 3}, []int{-1, 2, -3}, []int{-1, 2}, []int{-1, -2, 3}, []int{-1, -2, -3}, []int{-1, -2}, []int{-1}, nil)
}

func TestWithoutAChoice(t *testing.T) {
	for _, most := range []int{0, 1, impl.SatMax} {
		// What cannot be at once.
		checkNo(t, cnf(1, []int{1}, []int{-1}), most, nil)
		checkNo(t, cnf(3, []int{-3}, []int{1, 2, 3}, []int{-1}, []int{1, -2}), most, nil)
		checkNo(t, cnf(3, nil), most, nil)
		checkNo(t, cnf(3, []int{1, 2}, nil, []int{3}), most, nil)
		checkNo(t, cnf(3, []int{1}, []int{2}, []int{3}, []int{}), most, nil)
		checkNo(t, cnf(40, append(chain(40), []int{1}, []int{-40, -20})...), most, nil)
		checkNo(t, cnf(2, []int{1, 1}, []int{-1, 2, 2}, []int{-2, -1, -2}), most, nil)
		// All follows at once.
		checkYes(t, cnf(3, []int{1}, []int{-1, 2}, []int{-2, -3}), most, 1, 2)
		checkYes(t, cnf(3, []int{-2, -3}, []int{-1, 2}, []int{1}), most, 1, 2)
		checkYes(t, cnf(2, []int{-1}, []int{1, -2}), most)
		checkYes(t, cnf(2, []int{2, 2}, []int{1, -2, 1}, []int{1, -1}), most, 1, 2)
		checkYes(t, cnf(40, append(chain(40), []int{1})...), most, from1(40)...)
	}
	// All but one variable.
	for _, c := range []impl.Cnf{cnf(1), cnf(3, []int{1}, []int{-1, 2}), cnf(2, []int{2}, []int{1, -1}), cnf(2, allWays(1, 2)...)} {
		checkNeither(t, c, 0, impl.SatLong)
		if f := find(c, 1); f.code == impl.SatLong {
			t.Errorf("%v, though one choice is enough", f)
		}
	}
}

func TestBothWaysAreOneChoice(t *testing.T) {
	// Both ways are refuted.
	checkNo(t, cnf(2, allWays(1, 2)...), 1, []int{1}, []int{-1}, nil)
	checkNeither(t, cnf(2, allWays(1, 2)...), 0, impl.SatLong)
	// The first way is refuted, the other has a model.
	checkYes(t, cnf(2, allWays(1, 2)[:3]...), 1, 1, 2)
	checkNeither(t, cnf(2, allWays(1, 2)[:3]...), 0, impl.SatLong)
	// The first way is refuted, the other takes too long.
	late := cnf(3, []int{1, 2}, []int{1, -2})
	checkNeither(t, late, 0, impl.SatLong)
	checkNeither(t, late, 1, impl.SatLong)
	checkNeither(t, late, 2, impl.SatLong)
	checkYes(t, late, 3, 1)
	// The first way takes too long: the other is not gone, though all follows there at once.
	quick := cnf(3, []int{-1, 2}, []int{-1, 3})
	checkNeither(t, quick, 1, impl.SatLong)
	checkNeither(t, quick, 2, impl.SatLong)
	checkYes(t, quick, 3)
	// Choices of a way that was refuted count still.
	hard := cnf(4, append(behindAll([]int{1}, allWays(2, 3, 4)), []int{-1, 2}, []int{-1, 3})...)
	checkNeither(t, hard, 3, impl.SatLong)
	checkNeither(t, hard, 4, impl.SatLong)
	checkYes(t, hard, 5, 1, 2, 3)
}

func TestTheOrderOfARefutation(t *testing.T) {
	ways := cnf(3, allWays(1, 2, 3)...)
	checkNo(t, ways, 3, []int{1, 2}, []int{1, -2}, []int{1}, []int{-1, 2}, []int{-1, -2}, []int{-1}, nil)
	checkNeither(t, ways, 2, impl.SatLong)
	// What follows is none of the choices, and has no place in their no.
	checkNo(t, cnf(5, append(behindAll([]int{1}, allWays(3, 5)), append(behindAll([]int{-1}, allWays(2, 4)), []int{1, 2}, []int{1, 4})...)...), 3,
		[]int{1, 3}, []int{1, -3}, []int{1}, []int{-1, 2}, []int{-1, -2}, []int{-1}, nil)
	// One way is refuted at once, the other behind more choices, and the other way about.
	checkNo(t, cnf(3, append(behindAll([]int{1}, allWays(2, 3)), []int{-1, 2}, []int{-1, -2})...), 2, []int{1, 2}, []int{1, -2}, []int{1}, []int{-1}, nil)
	checkNo(t, cnf(3, append(behindAll([]int{-1}, allWays(2, 3)), []int{1, 2}, []int{1, -2})...), 2, []int{1}, []int{-1, 2}, []int{-1, -2}, []int{-1}, nil)
	// No clause of it stands behind one that says more.
	c, proof := deepest(6)
	checkNo(t, c, 5, proof...)
	checkNo(t, c, 5, [][]int{
		{1, 2, 3, 4, 5}, {1, 2, 3, 4, -5}, {1, 2, 3, 4}, {1, 2, 3, -4}, {1, 2, 3}, {1, 2, -3}, {1, 2}, {1, -2}, {1}, {-1}, nil,
	}...)
	checkNeither(t, c, 4, impl.SatLong)
}

func TestJustSoManyChoices(t *testing.T) {
	for _, n := range []int{3, 4, 5, 6, 7, 8, 20, 99, 1000, impl.SatMax - 1, impl.SatMax} {
		c := wants(n)
		f := find(c, n)
		if f.code != impl.SatNo || len(f.proof) != 2*n+1 || len(f.model) > 0 || !impl.SatProof(c, f.proof) {
			t.Errorf("%v: is refuted with %d choices", f, n)
		}
		checkNeither(t, c, n-1, impl.SatLong)
		checkNeither(t, c, n/2, impl.SatLong)
		checkNeither(t, c, 0, impl.SatLong)
		if full := find(c, impl.SatMax); !full.as(f) {
			t.Errorf("%v; with SatMax choices %v", f, full)
		}
	}
	checkNeither(t, wants(impl.SatMax+1), impl.SatMax, impl.SatLong)
	checkNeither(t, wants(4000), impl.SatMax, impl.SatLong)
	all := needsAll()
	checkYes(t, all, impl.SatMax, litsOf(modelOf(all.Vars, -1))...)
	checkNeither(t, all, impl.SatMax-1, impl.SatLong)
}

func TestHowManyClausesARefutationHas(t *testing.T) {
	most := 2*impl.SatMax + 1
	ways := cnf(2, allWays(1, 2)...)
	for _, one := range [][]int{{2}, {-1}, {1, 2}, {1, -1}, {2, 2}} {
		proof := many(most-2, one...)
		checkProof(t, true, ways, append(proof, []int{2}, nil)...)
		checkProof(t, false, ways, append(proof, one, []int{2}, nil)...)
		checkProof(t, false, ways, slices.Insert(proof, 0, []int{2}, one, nil)...)
		checkProof(t, false, ways, many(most, one...)...)
	}
	cannot := cnf(2, []int{1}, []int{-1})
	checkProof(t, true, cannot, many(most)...)
	checkProof(t, false, cannot, many(most+1)...)
	checkProof(t, false, cannot, many(100000)...)
	checkProof(t, true, cannot, nil)
	checkProof(t, false, cannot)
	// One that SatFind tells with SatMax choices.
	c := wants(impl.SatMax)
	proof := find(c, impl.SatMax).proof
	if len(proof) != most || !impl.SatProof(c, proof) {
		t.Errorf("a refutation of SatMax choices has %d clauses", len(proof))
	}
	for _, place := range []int{0, 1, most / 2, most - 1} {
		checkProof(t, false, c, slices.Insert(slices.Clone(proof), place, c.Clauses[0])...)
		if place < most-1 {
			checkProof(t, true, c, slices.Insert(slices.Delete(slices.Clone(proof), 0, 1), place, proof[0])...)
		}
	}
	checkProof(t, false, c, proof[:most-1]...)
	// Of as many clauses as there may be.
	full := cnf(2, append(many(impl.CnfMaxClauses-4, 1, 1, 2), allWays(1, 2)...)...)
	checkNo(t, full, 1, []int{1}, []int{-1}, nil)
	checkProof(t, true, full, append(many(most-2, 1, 2), []int{1}, nil)...)
	checkProof(t, false, full, append(many(most-2, 1, 2), []int{1, 2}, nil)...)
	checkProof(t, false, full, append(many(most-1, 1, 2), []int{1}, nil)...)
	slices.Reverse(full.Clauses)
	checkNo(t, full, 1, []int{1}, []int{-1}, nil)
	checkNeither(t, with(full, []int{1, 2}), 1, impl.SatBad)
	checkProof(t, false, with(full, []int{1, 2}), []int{1}, nil)
}

func TestAnEmptyClauseAheadOfTheEnd(t *testing.T) {
	ways := cnf(2, allWays(1, 2)...)
	checkProof(t, true, ways, []int{2}, nil, nil)
	checkProof(t, true, ways, []int{2}, nil, []int{1}, []int{-1}, []int{1, 2}, nil)
	checkProof(t, true, ways, []int{2}, []int{}, []int{}, []int{-2}, []int{})
	checkProof(t, false, ways, nil, []int{2}, nil)
	checkProof(t, false, ways, nil, nil)
	checkProof(t, false, ways, []int{2}, nil, []int{1})
	checkProof(t, false, ways, []int{2}, nil, []int{3}, nil)
	checkProof(t, false, ways, []int{2}, nil, []int{0}, nil)
	checkProof(t, false, ways, []int{2}, nil, slices.Repeat([]int{1}, impl.CnfMaxLits+1), nil)
	// Clauses that cannot be at once let anything follow, also what would not.
	cannot := cnf(3, []int{1}, []int{-1})
	checkProof(t, true, cannot, nil, []int{3}, []int{-3}, nil)
	checkProof(t, true, cannot, []int{3}, []int{-2}, nil)
	checkProof(t, true, cnf(3, nil), []int{3}, []int{-2, 3}, nil)
	checkProof(t, false, cannot, []int{4}, nil)
	checkProof(t, false, cannot, nil, []int{3})
}

func TestAClauseThatFollowsOnlyBehindAnother(t *testing.T) {
	ways := cnf(3, allWays(1, 2, 3)...)
	checkProof(t, true, ways, []int{1, 2}, []int{1}, []int{-1, 2}, nil)
	checkProof(t, false, ways, []int{1}, []int{1, 2}, []int{-1, 2}, nil)
	checkProof(t, false, ways, []int{1}, []int{-1, 2}, nil)
	checkProof(t, false, ways, []int{1, 2}, []int{1}, nil)
	checkProof(t, false, ways, []int{1, 2}, []int{-1, 2}, nil)
	checkProof(t, false, ways, []int{1, 2}, []int{-1, 2}, []int{2}, nil)
	checkProof(t, true, ways, []int{1, 2}, []int{-1, 2}, []int{2}, []int{-2, 3}, nil)
	checkProof(t, false, ways, []int{1, 2}, []int{-1, 2}, []int{-2, 3}, nil)
	checkProof(t, false, ways, []int{-2, 3}, nil)
	checkProof(t, false, ways, []int{2}, []int{1, 2}, []int{-1, 2}, nil)
	// One does not follow at all.
	free := cnf(4, allWays(1, 2)...)
	checkProof(t, false, free, []int{3}, []int{2}, nil)
	checkProof(t, false, free, []int{3, -4}, []int{2}, nil)
	checkProof(t, true, free, []int{2}, []int{3, -4}, nil)
	checkProof(t, true, free, []int{2, 3}, []int{2}, nil)
	checkProof(t, true, free, []int{2, 3}, []int{2, -3}, []int{2}, nil)
	// From one that follows more follows at once, clause by clause.
	row := with(cnf(6, chain(6)...), append(allWays(1, 2), []int{-6, -1}, []int{-6, -2})...)
	checkProof(t, true, row, []int{1}, nil)
	checkProof(t, true, row, []int{1, 2}, []int{6, -1}, []int{1}, nil)
	loose := cnf(6, append(chain(6), []int{1, 2}, []int{1, -2, 3}, []int{1, -3})...)
	checkProof(t, false, loose, []int{1}, nil)
	checkProof(t, true, with(loose, []int{-1, -6}), []int{1}, nil)
	checkProof(t, false, with(loose, []int{-1, -6}), []int{6, 5}, nil)
	checkProof(t, true, with(loose, []int{-1, -6}), []int{6}, nil)
}

func TestALiteralTwiceInARefutation(t *testing.T) {
	ways := cnf(2, allWays(1, 2)...)
	checkProof(t, true, ways, []int{1, 1}, nil)
	checkProof(t, true, ways, []int{1, 1, 1, 1}, []int{-1, -1}, nil)
	checkProof(t, true, ways, []int{2, 1, 2, 1, 2}, []int{2, 2}, nil)
	checkProof(t, false, ways, []int{2, 1, 2, 1, 2}, nil)
	three := cnf(3, allWays(1, 2, 3)...)
	checkProof(t, true, three, []int{1, 2, 1}, []int{1, 1}, []int{2, -1, 2}, nil)
	checkProof(t, false, three, []int{1, 1}, []int{1, 2, 1}, []int{2, -1, 2}, nil)
	checkProof(t, true, three, slices.Repeat([]int{1, 2}, impl.CnfMaxLits/2), slices.Repeat([]int{1}, impl.CnfMaxLits), []int{-1, 2}, nil)
	checkProof(t, false, three, []int{1, 2}, slices.Repeat([]int{1}, impl.CnfMaxLits+1), []int{-1, 2}, nil)
	// A variable both ways says nothing: it always follows, and nothing follows from it.
	for _, both := range [][]int{{1, -1}, {-1, 1, -1}, {3, -3}, {1, 2, -1}, {2, 3, 2, -3}} {
		checkProof(t, true, three, both, []int{1, 2}, both, []int{1}, both, []int{-1, 2}, both, nil)
		checkProof(t, false, three, both, nil)
		checkProof(t, false, three, both)
		checkProof(t, false, three, both, []int{1}, []int{-1, 2}, nil)
		checkProof(t, true, with(three, nil), both, nil)
		checkProof(t, false, with(three, nil), both)
	}
}

func TestMostThatIsNone(t *testing.T) {
	for _, c := range []impl.Cnf{{}, cnf(3), cnf(3, []int{1, 2}), cnf(3, nil), cnf(2, allWays(1, 2)...), cnf(1, []int{1}), cnf(0, nil)} {
		for _, most := range []int{-1, -2, -impl.SatMax, impl.SatMax + 1, 2 * impl.SatMax, math.MinInt, math.MaxInt, 1 << 32, -1 << 32} {
			checkNeither(t, c, most, impl.SatBad)
		}
		for _, most := range []int{0, 1, impl.SatMax - 1, impl.SatMax} {
			if f := find(c, most); f.code == impl.SatBad {
				t.Errorf("%v: all is ok", f)
			}
		}
	}
}

func TestFindAndProofOfClausesThatAreNotOk(t *testing.T) {
	for _, c := range wrongCnfs() {
		for _, most := range []int{-1, 0, 1, impl.SatMax, impl.SatMax + 1} {
			checkNeither(t, c, most, impl.SatBad)
		}
		for _, proof := range [][][]int{nil, {nil}, {{}, nil}, {{1}, nil}, {{1}, {-1}, nil}, {{1}}, {{4}, nil}, {{0}, nil}} {
			checkProof(t, false, c, proof...)
		}
	}
}

func TestWhatIsNoRefutation(t *testing.T) {
	for _, c := range []impl.Cnf{cnf(3, nil), cnf(3, []int{1}, []int{-1}), cnf(3, allWays(1, 2)...)} {
		checkProof(t, false, c)
		checkProof(t, false, c, []int{1})
		checkProof(t, false, c, []int{1}, []int{-1})
		checkProof(t, false, c, []int{1}, nil, []int{-1})
		checkProof(t, true, c, []int{1}, nil)
		for _, wrong := range []int{0, 4, -4, 5, 400, -400, 401, math.MaxInt, math.MinInt, math.MinInt + 1, 1 << 32, 1<<32 + 1, -1 << 32, 257} {
			for _, clause := range [][]int{{wrong}, {1, wrong}, {wrong, 1}, {1, 2, 3, wrong}, {1, -1, wrong}, {wrong, 2, -2}} {
				checkProof(t, false, c, clause, []int{1}, nil)
				checkProof(t, false, c, []int{1}, clause, nil)
				checkProof(t, false, c, []int{1}, nil, clause, nil)
				checkProof(t, false, c, []int{1}, nil, clause)
				checkProof(t, false, c, clause)
			}
		}
		for _, clause := range [][]int{slices.Repeat([]int{1}, impl.CnfMaxLits), slices.Repeat([]int{1, 2}, impl.CnfMaxLits/2), slices.Repeat([]int{1, -1}, impl.CnfMaxLits/2)} {
			checkProof(t, true, c, clause, []int{1}, nil)
			checkProof(t, true, c, []int{1}, clause, nil)
			checkProof(t, false, c, append(slices.Clone(clause), 1), []int{1}, nil)
			checkProof(t, false, c, []int{1}, append(slices.Clone(clause), 1), nil)
			checkProof(t, false, c, []int{1}, nil, append(slices.Clone(clause), 1), nil)
		}
	}
	wide := cnf(impl.CnfMaxVars, allWays(1, 2)...)
	for _, wrong := range []int{0, impl.CnfMaxVars + 1, -impl.CnfMaxVars - 1, math.MaxInt, math.MinInt} {
		checkProof(t, false, wide, []int{1, wrong}, []int{1}, nil)
	}
	checkProof(t, true, wide, []int{1, 2, impl.CnfMaxVars}, []int{1}, nil)
	checkProof(t, true, wide, from1(impl.CnfMaxVars), []int{1}, nil)
	checkProof(t, false, wide, append(from1(impl.CnfMaxVars), 1), []int{1}, nil)
}

// roomyProof is a refutation with spare room behind it and behind each clause, and what tells all of it, the spare room too.
func roomyProof(proof [][]int) ([][]int, func() string) {
	var again [][]int
	for _, clause := range proof {
		again = append(again, append(slices.Clone(clause), 77, 78)[:len(clause)])
	}
	again = append(again, []int{79})[:len(proof)]
	return again, func() string {
		var all [][]int
		for _, clause := range again {
			all = append(all, clause[:len(clause)+2])
		}
		return fmt.Sprint(all, again[:len(proof)+1])
	}
}

func TestNothingIsWrittenIntoClausesAndRefutations(t *testing.T) {
	for _, f := range findings() {
		c, _, whole := roomyCnf(f.c, nil)
		proof, wholeProof := roomyProof(f.proof)
		before, beforeProof := whole(), wholeProof()
		if g := find(c, f.most); !g.as(f) {
			t.Fatalf("%v; with spare room %v", f, g)
		}
		find(c, 1)
		find(c, -1)
		if impl.SatProof(c, proof) != (f.code == impl.SatNo) || whole() != before || wholeProof() != beforeProof {
			t.Fatalf("%v: an argument was changed, or a refutation is none with spare room", f)
		}
		// Also where it is none.
		impl.SatProof(c, append(proof[:0:0], slices.Concat([][]int{{1, 1}}, proof)...))
		slices.Reverse(proof)
		beforeProof = wholeProof()
		impl.SatProof(c, proof)
		if whole() != before || wholeProof() != beforeProof {
			t.Fatalf("%v: an argument was changed", f)
		}
	}
	for _, wrong := range wrongCnfs() {
		c, _, whole := roomyCnf(wrong, nil)
		proof, wholeProof := roomyProof([][]int{{1}, {2, 3}, nil})
		before, beforeProof := whole(), wholeProof()
		find(c, 5)
		impl.SatProof(c, proof)
		if whole() != before || wholeProof() != beforeProof {
			t.Fatalf("%v: an argument was changed", brief(wrong.Clauses))
		}
	}
}

func TestModelsAndRefutationsAreNewMemory(t *testing.T) {
	for _, f := range findings() {
		c := copyCnf(f.c)
		g := find(c, f.most)
		// Clause by clause: neither the others change, nor what was handed in.
		want := slices.Clone(f.proof)
		for i, clause := range g.proof {
			spoilt(clause)
			want[i] = slices.Repeat([]int{-7}, len(clause))
			if len(g.proof) <= 200 && !sameSets(g.proof, want) {
				t.Fatalf("%v: clause %d shares memory with another", f, i)
			}
		}
		if !sameSets(g.proof, want) {
			t.Fatalf("%v: clauses share memory", f)
		}
		for i := range g.model[:cap(g.model)] {
			g.model[:cap(g.model)][i] = !g.model[:cap(g.model)][i]
		}
		for i := range g.proof[:cap(g.proof)] {
			g.proof[:cap(g.proof)][i] = []int{-7}
		}
		if !sameSets(c.Clauses, f.c.Clauses) {
			t.Fatalf("%v: the answer shares memory with the clauses", f)
		}
		if again := find(c, f.most); !again.as(f) {
			t.Fatalf("%v: two answers share memory: %v", f, again)
		}
	}
	// Also where a clause of the refutation is one of the clauses, and has spare room there.
	room := []int{8, 9}
	c := cnf(2, []int{1}, room[:0], room[1:1])
	f := find(c, 3)
	spoilt(f.proof[0])
	if !slices.Equal(room, []int{8, 9}) || len(f.proof) != 1 {
		t.Error("the empty clause is the one that was handed in")
	}
}

func TestNothingOfASearchIsKept(t *testing.T) {
	yes, no, long := cnf(3, []int{1, 2}, []int{-1, 3}, []int{-3, -2}), cnf(2, allWays(1, 2)...), cnf(4)
	for range 3 {
		checkYes(t, yes, 1, 2)
		checkNo(t, no, 1, []int{1}, []int{-1}, nil)
		checkNeither(t, long, 3, impl.SatLong)
		checkProof(t, false, no, nil)
		checkProof(t, true, no, []int{1}, nil)
		checkProof(t, false, yes, []int{1}, nil)
		checkNeither(t, long, -1, impl.SatBad)
		checkYes(t, long, 4)
	}
	// What the caller changes behind a call counts in the next one.
	no.Clauses[0][1] = -2
	checkYes(t, no, 1)
	checkProof(t, false, no, []int{1}, nil)
}
