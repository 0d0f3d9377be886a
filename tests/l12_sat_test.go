package tests

import (
	"slices"
	"testing"

	"loop.example/drydock/impl"
)

// checkBeside asks that there is a model just with SatYes, and a refutation just with SatNo.
func checkBeside(t *testing.T, f finding) {
	t.Helper()
	if f.code != impl.SatYes && len(f.model) > 0 || f.code != impl.SatNo && len(f.proof) > 0 {
		t.Fatalf("%v: something beside the answer", f)
	}
}

// thrownProofs is refutations that were changed here and there; some still are ones.
func thrownProofs(d *dice, f finding) [][][]int {
	var list [][][]int
	one := func(change func(proof [][]int, i int) [][]int) {
		var proof [][]int
		for _, clause := range f.proof {
			proof = append(proof, slices.Clone(clause))
		}
		list = append(list, change(proof, d.below(len(proof))))
	}
	one(func(proof [][]int, i int) [][]int { return slices.Delete(proof, i, i+1) })
	one(func(proof [][]int, i int) [][]int {
		return slices.Insert(proof, i, thrownLits(d, f.c.Vars, d.below(4)))
	})
	one(func(proof [][]int, i int) [][]int { return slices.Insert(proof, i, proof[d.below(len(proof))]) })
	one(func(proof [][]int, i int) [][]int { return append(shuffled(d, proof[:len(proof)-1]), nil) })
	one(func(proof [][]int, i int) [][]int { slices.Reverse(proof[:len(proof)-1]); return proof })
	one(func(proof [][]int, i int) [][]int { return append(proof[:i], nil) })
	one(func(proof [][]int, i int) [][]int { return append(proof[i:len(proof)-1], nil) })
	one(func(proof [][]int, i int) [][]int {
		j := d.below(len(proof))
		proof[i], proof[j] = proof[j], proof[i]
		return proof
	})
	for range 3 {
		one(func(proof [][]int, i int) [][]int {
			if n := len(proof[i]); n > 0 {
				proof[i][d.below(n)] *= -1
			}
			return proof
		})
		one(func(proof [][]int, i int) [][]int {
			if n := len(proof[i]); n > 0 {
				j := d.below(n)
				proof[i] = slices.Delete(proof[i], j, j+1)
			}
			return proof
		})
		one(func(proof [][]int, i int) [][]int {
			if i < len(proof)-1 {
				proof[i] = shuffled(d, slices.Concat(proof[i], proof[i], thrownLits(d, f.c.Vars, 1)))
			}
			return proof
		})
	}
	return list
}

func TestFindsByTheWords(t *testing.T) {
	for i, f := range findings() {
		follows := unitsOf
		if i >= len(fewFindings()) {
			follows = impl.CnfUnits
		}
		if want, _ := huntFor(f.c, f.most, follows); !f.as(want) {
			t.Fatalf("%v, not %v", f, want)
		}
	}
}

func TestRefutationsByTheWords(t *testing.T) {
	d := dice(59)
	are, arent := 0, 0
	eachWith(t, impl.SatNo, findings(), func(f finding) {
		if f.c.Vars == 0 || len(f.proof) > 60 {
			return
		}
		for _, proof := range thrownProofs(&d, f) {
			want := refutes(f.c, proof)
			if impl.SatProof(f.c, proof) != want {
				t.Fatalf("%d variables, clauses %v: is %v a refutation? %v", f.c.Vars, f.c.Clauses, proof, want)
			}
			if want {
				are++
			} else {
				arent++
			}
		}
	})
	if are < 1000 || arent < 1000 {
		t.Errorf("only %d are refutations, %d are none", are, arent)
	}
}

func TestPromise58WhatCannotBeAtOnceIsRefutedAtOnce(t *testing.T) {
	cannot := 0
	for _, q := range smallQuestions() {
		said := with(q.c, alone(q.lits)...)
		f := find(said, 0)
		if q.no != (f.code == impl.SatNo) || q.no && !sameSets(f.proof, [][]int{nil}) {
			t.Fatalf("%v: %v cannot be at once, %v", q, q.no, f)
		}
		if full := find(said, impl.SatMax); q.no && !full.as(f) {
			t.Fatalf("%v: with SatMax choices %v", f, full)
		}
		if q.no {
			cannot++
		}
	}
	if cannot < 500 {
		t.Errorf("only %d cannot be at once", cannot)
	}
	// And what is so in a model can be at once.
	d := dice(580)
	eachWith(t, impl.SatYes, findings(), func(f finding) {
		lits := shuffled(&d, litsOf(f.model))[:d.below(len(f.model)+1)]
		if q := ask(f.c, lits); q.no || !areSo(f.model, q.units) {
			t.Fatalf("%v is a model of %v", f.model, q)
		}
	})
}

func TestPromise59NoClausesAndAnEmptyOne(t *testing.T) {
	for vars := range impl.CnfMaxVars + 1 {
		f := find(cnf(vars), impl.SatMax)
		if f.code != impl.SatYes || !slices.Equal(f.model, modelOf(vars, 0)) || !impl.CnfTrue(f.c, f.model) {
			t.Fatalf("%v", f)
		}
		checkBeside(t, f)
		if impl.SatProof(cnf(vars), [][]int{nil}) {
			t.Errorf("no clauses of %d variables are refuted", vars)
		}
	}
	d := dice(591)
	for _, f := range findings() {
		c := impl.Cnf{Vars: f.c.Vars, Clauses: slices.Insert(slices.Clone(f.c.Clauses), d.below(len(f.c.Clauses)+1), nil)}
		for _, most := range []int{0, 1, impl.SatMax} {
			if g := find(c, most); g.code != impl.SatNo || !sameSets(g.proof, [][]int{nil}) || len(g.model) > 0 {
				t.Fatalf("with an empty clause %v", g)
			}
		}
		if !impl.SatProof(c, [][]int{nil}) || impl.CnfTrue(c, modelOf(c.Vars, 0)) || f.code == impl.SatYes && impl.CnfTrue(c, f.model) {
			t.Fatalf("%v holds, or is not refuted", c)
		}
	}
}

func TestPromise60AModelIsOne(t *testing.T) {
	for _, f := range findings() {
		checkBeside(t, f)
	}
	eachWith(t, impl.SatYes, findings(), func(f finding) {
		if !impl.CnfTrue(f.c, f.model) || !allHold(f.c, f.model) || len(f.model) != f.c.Vars {
			t.Fatalf("%v: not all holds", f)
		}
	})
}

func TestPromise61ARefutationIsOne(t *testing.T) {
	long := 0
	eachWith(t, impl.SatNo, findings(), func(f finding) {
		if !impl.SatProof(f.c, f.proof) || len(f.proof) <= 60 && !refutes(f.c, f.proof) {
			t.Fatalf("%v: no refutation", f)
		}
		if len(f.proof) > 60 {
			long++
		}
	})
	if long < 20 {
		t.Errorf("only %d long refutations", long)
	}
}

func TestPromise62NoModelStandsAheadOfTheFirst(t *testing.T) {
	eachWith(t, impl.SatYes, fewFindings(), func(f finding) {
		if want, _ := firstModel(f.c, 0); !slices.Equal(f.model, want) {
			t.Fatalf("%v, but the first model is %v", f, want)
		}
	})
	// Of many variables: one that is so cannot be other with all ahead of it the same.
	for _, f := range manyFindings() {
		for i, so := range f.model {
			lits := litsOf(f.model[:i+1])
			lits[i] *= -1
			if g := find(with(f.c, alone(lits)...), impl.SatMax); so && g.code == impl.SatYes {
				t.Fatalf("%v, but %v stands ahead", f, g.model)
			}
		}
	}
}

func TestPromise63FewVariablesHaveAModelOrARefutation(t *testing.T) {
	for _, f := range fewFindings() {
		if f.c.Vars > 10 {
			t.Fatalf("%v: too many variables", f)
		}
		_, place := firstModel(f.c, 0)
		if place >= 0 && f.code != impl.SatYes || place < 0 && f.code != impl.SatNo {
			t.Fatalf("%v, but the first model is at %d", f, place)
		}
	}
	// The most that ten variables can ask for: a choice of all but the last.
	f := find(cnf(10, allWays(from1(10)...)...), impl.SatMax)
	if f.code != impl.SatNo || len(f.proof) != 1023 || !impl.SatProof(f.c, f.proof) {
		t.Errorf("%v", f)
	}
}

func TestPromise64WithAClauseLessNoLaterModel(t *testing.T) {
	earlier := 0
	eachWith(t, impl.SatYes, fewFindings(), func(f finding) {
		for _, place := range some(from1(len(f.c.Clauses)), 20) {
			g := find(without(f.c, place-1), impl.SatMax)
			if g.code != impl.SatYes || ahead(f.model, g.model) {
				t.Fatalf("%v; without clause %d %v", f, place-1, g)
			}
			if ahead(g.model, f.model) {
				earlier++
			}
		}
	})
	if earlier < 100 {
		t.Errorf("only %d models stand ahead", earlier)
	}
}

func TestPromise65WithAClauseMoreNone(t *testing.T) {
	d := dice(65)
	eachWith(t, impl.SatNo, fewFindings(), func(f finding) {
		for range 5 {
			if f.c.Vars == 0 {
				continue
			}
			more := with(f.c, thrownLits(&d, f.c.Vars, 1+d.below(4)))
			if g := find(more, impl.SatMax); g.code != impl.SatNo || !impl.SatProof(more, g.proof) {
				t.Fatalf("%v; with %v %v", f, more.Clauses[len(f.c.Clauses)], g)
			}
		}
	})
}

func TestPromise66ItDoesNotMatterInWhichOrderClausesStand(t *testing.T) {
	d := dice(66)
	for _, f := range findings() {
		turned := slices.Clone(f.c.Clauses)
		slices.Reverse(turned)
		for _, clauses := range [][][]int{turned, shuffled(&d, f.c.Clauses), shuffled(&d, f.c.Clauses)} {
			c := cnf(f.c.Vars, clauses...)
			if g := find(c, f.most); !f.as(g) {
				t.Fatalf("%v; in another order %v", f, g)
			}
			if f.code == impl.SatNo && !impl.SatProof(c, f.proof) {
				t.Fatalf("%v: refuted no more in another order", f)
			}
		}
		// Nor how often, and with its literals how often and where.
		often := impl.Cnf{Vars: f.c.Vars}
		for _, clause := range slices.Concat(f.c.Clauses, f.c.Clauses) {
			often.Clauses = append(often.Clauses, shuffled(&d, slices.Concat(clause, clause[:d.below(len(clause)+1)])))
		}
		if g := find(often, f.most); !f.as(g) {
			t.Fatalf("%v; with all twice %v", f, g)
		}
		if f.code == impl.SatNo && len(f.proof) <= 60 && f.c.Vars > 0 {
			for _, proof := range thrownProofs(&d, f) {
				if impl.SatProof(often, proof) != impl.SatProof(f.c, proof) {
					t.Fatalf("%v: %v refutes, or does not, with all twice", f, proof)
				}
			}
		}
	}
}

func TestPromise67WithMoreChoicesTheSameIsFound(t *testing.T) {
	long := 0
	for _, f := range fewFindings() {
		_, made := huntFor(f.c, f.most, impl.CnfUnits)
		for most := range made + 3 {
			g := find(f.c, most)
			if most < made && (g.code != impl.SatLong || len(g.model) > 0 || len(g.proof) > 0) {
				t.Fatalf("%v, though it needs %d choices", g, made)
			}
			if most >= made && !g.as(f) {
				t.Fatalf("%v; with %d choices of %d %v", f, most, made, g)
			}
			if most < made {
				long++
			}
		}
	}
	if long < 500 {
		t.Errorf("only %d took too long", long)
	}
}

func TestJustAsManyChoicesAsAreNeeded(t *testing.T) {
	for _, f := range manyFindings() {
		_, made := huntFor(f.c, f.most, impl.CnfUnits)
		if f.code == impl.SatLong {
			continue
		}
		if f.code == impl.SatNo && len(f.proof) != 2*made+1 {
			t.Fatalf("%v: of %d choices", f, made)
		}
		if g := find(f.c, made); !g.as(f) {
			t.Fatalf("%v; with just %d %v", f, made, g)
		}
		if g := find(f.c, made-1); made > 0 && (g.code != impl.SatLong || len(g.model) > 0 || len(g.proof) > 0) {
			t.Fatalf("%v; but with one choice less than %d %v", f, made, g)
		}
	}
}

func TestPromise68WithTheFirstModelForbidden(t *testing.T) {
	later, none := 0, 0
	eachWith(t, impl.SatYes, findings(), func(f finding) {
		g := find(with(f.c, times(-1, litsOf(f.model))), impl.SatMax)
		if g.code == impl.SatYes && !ahead(f.model, g.model) {
			t.Fatalf("%v; with that forbidden %v", f, g)
		}
		if f.c.Vars > 10 {
			return
		}
		_, place := firstModel(f.c, 0)
		want, place := firstModel(f.c, place+1)
		if (g.code == impl.SatYes) != (place >= 0) || (g.code == impl.SatNo) != (place < 0) || !slices.Equal(g.model, want) {
			t.Fatalf("%v; with that forbidden %v, not %v", f, g, want)
		}
		if place >= 0 {
			later++
		} else {
			none++
		}
	})
	if later < 100 || none < 50 {
		t.Errorf("only %d later ones, %d none", later, none)
	}
	// All models of a few variables, one behind the other.
	for _, f := range fewFindings()[:300] {
		n := 0
		for f.code == impl.SatYes {
			n++
			f = find(with(f.c, times(-1, litsOf(f.model))), impl.SatMax)
		}
		models := 0
		for _, model := range allModels(f.c.Vars) {
			if allHold(cnf(f.c.Vars, f.c.Clauses[:len(f.c.Clauses)-n]...), model) {
				models++
			}
		}
		if n != models || f.code != impl.SatNo {
			t.Fatalf("%v: behind %d of %d models", f, n, models)
		}
	}
}

func TestPromise69WithWhatIsSoInTheFirstModelSaid(t *testing.T) {
	d := dice(69)
	eachWith(t, impl.SatYes, findings(), func(f finding) {
		lits := litsOf(f.model)
		so := slices.DeleteFunc(slices.Clone(lits), func(lit int) bool { return lit < 0 })
		for _, said := range [][]int{lits, so, shuffled(&d, lits)[:d.below(len(lits)+1)]} {
			if g := find(with(f.c, alone(said)...), impl.SatMax); !g.as(f) {
				t.Fatalf("%v; with %v said %v", f, said, g)
			}
		}
		if g := find(with(f.c, alone(lits)...), 0); !g.as(f) {
			t.Fatalf("%v; with all said, and no choice, %v", f, g)
		}
	})
}

func TestPromise70Sound(t *testing.T) {
	d := dice(70)
	lost := 0
	eachWith(t, impl.SatNo, fewFindings(), func(f finding) {
		if model, place := firstModel(f.c, 0); place >= 0 {
			t.Fatalf("%v, but %v is a model", f, model)
		}
		// What refutes these does not refute fewer, if they have a model.
		for _, place := range some(from1(len(f.c.Clauses)), 10) {
			less := without(f.c, place-1)
			if _, found := firstModel(less, 0); found < 0 {
				continue
			}
			lost++
			if impl.SatProof(less, f.proof) {
				t.Fatalf("%v: refuted also without clause %d", f, place-1)
			}
			if f.c.Vars == 0 {
				continue
			}
			for _, proof := range thrownProofs(&d, f) {
				if impl.SatProof(less, proof) {
					t.Fatalf("%v: %v refutes also without clause %d", f, proof, place-1)
				}
			}
		}
	})
	if lost < 300 {
		t.Errorf("only %d have a model with a clause less", lost)
	}
	// Clauses with a model have no refutation, whatever is said to be one.
	eachWith(t, impl.SatYes, fewFindings(), func(f finding) {
		for range 5 {
			proof := [][]int{nil}
			for range d.below(6) {
				if f.c.Vars > 0 {
					proof = slices.Insert(proof, 0, thrownLits(&d, f.c.Vars, d.below(4)))
				}
			}
			if impl.SatProof(f.c, proof) || impl.SatProof(f.c, slices.Concat(f.c.Clauses, proof)) {
				t.Fatalf("%v: %v refutes", f, proof)
			}
		}
	})
}

func TestPromise71ARefutationOfMoreClauses(t *testing.T) {
	d := dice(71)
	eachWith(t, impl.SatNo, findings(), func(f finding) {
		more := copyCnf(f.c)
		for range 6 {
			if f.c.Vars > 0 {
				more.Clauses = slices.Insert(more.Clauses, d.below(len(more.Clauses)+1), thrownLits(&d, f.c.Vars, d.below(5)))
			}
			if !impl.SatProof(more, f.proof) {
				t.Fatalf("%v: not with %v", f, more.Clauses)
			}
		}
		// Also of clauses that say more of new variables.
		wide := with(f.c, []int{f.c.Vars + 1}, []int{-f.c.Vars - 1, f.c.Vars + 2})
		wide.Vars += 2
		if !impl.SatProof(wide, f.proof) {
			t.Fatalf("%v: not with two variables more", f)
		}
	})
}

func TestPromise72ARefutationEndsWithTheEmptyClause(t *testing.T) {
	eachWith(t, impl.SatNo, findings(), func(f finding) {
		n := len(f.proof)
		if len(f.proof[n-1]) > 0 {
			t.Fatalf("%v: the last clause is not empty", f)
		}
		for i := range n {
			short := f.proof[:i]
			if want := i > 0 && len(f.proof[i-1]) == 0; impl.SatProof(f.c, short) != want {
				t.Fatalf("%v: the first %d", f, i)
			}
		}
		twice := slices.Concat(f.proof, [][]int{nil})
		if !impl.SatProof(f.c, twice) || !impl.SatProof(f.c, twice[:n]) {
			t.Fatalf("%v: with the empty clause twice", f)
		}
		if f.c.Vars > 0 {
			for _, last := range [][]int{{1}, {-1}, {1, -1}} {
				if impl.SatProof(f.c, slices.Concat(f.proof[:n-1], [][]int{last})) || impl.SatProof(f.c, slices.Concat(f.proof, [][]int{last})) {
					t.Fatalf("%v: %v at the end", f, last)
				}
			}
		}
	})
}

func TestPromise73TheClausesThemselvesAhead(t *testing.T) {
	d := dice(73)
	eachWith(t, impl.SatNo, findings(), func(f finding) {
		for _, clauses := range [][][]int{f.c.Clauses, shuffled(&d, f.c.Clauses), slices.Concat(f.c.Clauses, f.c.Clauses)} {
			if proof := slices.Concat(clauses, f.proof); !impl.SatProof(f.c, proof) {
				t.Fatalf("%v: not with its clauses ahead", f)
			}
		}
	})
}

func TestPromise74TheEmptyClauseAlone(t *testing.T) {
	at, later := 0, 0
	for _, f := range findings() {
		q := ask(f.c, nil)
		if impl.SatProof(f.c, [][]int{nil}) != q.no || impl.SatProof(f.c, [][]int{{}, nil}) != q.no {
			t.Fatalf("%v: cannot be at once: %v", f, q.no)
		}
		if impl.SatProof(f.c, nil) || impl.SatProof(f.c, [][]int{}) {
			t.Fatalf("%v: nothing refutes", f)
		}
		if q.no {
			at++
		} else if f.code == impl.SatNo {
			later++
		}
	}
	if at < 100 || later < 100 {
		t.Errorf("only %d cannot be at once, %d not at all", at, later)
	}
}

func TestPromise75EachClauseOfARefutationFollows(t *testing.T) {
	eachWith(t, impl.SatNo, findings(), func(f finding) {
		if len(f.proof) > 60 {
			return
		}
		for i, clause := range f.proof {
			if !followsFrom(f.c, f.proof[:i], clause) {
				t.Fatalf("%v: %v at %d does not follow", f, clause, i)
			}
			// So it may stand there as if it were one of the clauses.
			if c := with(f.c, f.proof[:i]...); !impl.SatProof(c, f.proof[i:]) {
				t.Fatalf("%v: what is behind %d does not refute the rest", f, i)
			}
		}
	})
	// One more stands there just if it follows from what is ahead.
	d := dice(75)
	follows, not := 0, 0
	eachWith(t, impl.SatNo, fewFindings(), func(f finding) {
		if f.c.Vars == 0 || len(f.proof) > 60 {
			return
		}
		for i := range f.proof {
			one := thrownLits(&d, f.c.Vars, d.below(4))
			want := followsFrom(f.c, f.proof[:i], one)
			if impl.SatProof(f.c, slices.Insert(slices.Clone(f.proof), i, one)) != want {
				t.Fatalf("%v: %v at %d follows: %v", f, one, i, want)
			}
			if want {
				follows++
			} else {
				not++
			}
		}
	})
	if follows < 300 || not < 300 {
		t.Errorf("only %d follow, %d do not", follows, not)
	}
}
