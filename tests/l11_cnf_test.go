package tests

import (
	"slices"
	"testing"

	"loop.example/drydock/impl"
)

// hasAll says whether a list has all of another.
func hasAll(list, few []int) bool {
	return !slices.ContainsFunc(few, func(lit int) bool { return !slices.Contains(list, lit) })
}

func TestPromise53WithAClauseLessWhatHoldsDoesStill(t *testing.T) {
	holds := 0
	for _, c := range smallCnfs() {
		for _, model := range allModels(c.Vars) {
			if !impl.CnfTrue(c, model) {
				continue
			}
			holds++
			for i := range c.Clauses {
				if !impl.CnfTrue(without(c, i), model) {
					t.Fatalf("%v holds of %v, but not without clause %d", c, model, i)
				}
			}
		}
	}
	if holds < 1000 {
		t.Errorf("only %d models hold", holds)
	}
}

func TestAllHoldsByTheWords(t *testing.T) {
	for _, c := range smallCnfs() {
		for _, model := range allModels(c.Vars) {
			if got, want := impl.CnfTrue(c, model), allHold(c, model); got != want {
				t.Fatalf("%v of %v: %v", c, model, got)
			}
		}
	}
}

func TestWhatHoldsDoesJustIfEachClauseDoes(t *testing.T) {
	for _, c := range smallCnfs() {
		for _, model := range allModels(c.Vars) {
			each := true
			for _, clause := range c.Clauses {
				each = each && impl.CnfTrue(cnf(c.Vars, clause), model)
			}
			if impl.CnfTrue(c, model) != each {
				t.Fatalf("%v of %v together is not as one by one", c, model)
			}
		}
	}
}

func TestPromise54EachModelHasWhatFollows(t *testing.T) {
	models, more := 0, 0
	for _, q := range smallQuestions() {
		for _, model := range allModels(q.c.Vars) {
			if !impl.CnfTrue(q.c, model) || !areSo(model, q.lits) {
				continue
			}
			models++
			if q.no || !areSo(model, q.units) {
				t.Fatalf("%v: %v, %v follows, but %v is a model", q, q.units, q.no, model)
			}
			if len(q.units) > len(q.lits) {
				more++
			}
		}
	}
	if models < 1000 || more < 500 {
		t.Errorf("only %d models, %d of them with something that follows", models, more)
	}
}

func TestWhatFollowsByTheWords(t *testing.T) {
	follows, cannot := 0, 0
	for _, q := range questions() {
		units, no := unitsOf(q.c, q.lits)
		if no != q.no || !slices.Equal(units, q.units) {
			t.Fatalf("%v: %v, %v, not %v, %v", q, brief(q.units), q.no, brief(units), no)
		}
		if no {
			cannot++
		} else if len(units) > len(q.lits) {
			follows++
		}
	}
	if follows < 500 || cannot < 500 {
		t.Errorf("of %d in %d more follows, %d cannot be", len(questions()), follows, cannot)
	}
}

func TestPromise55WhatFollowsFromWhatFollows(t *testing.T) {
	d := dice(55)
	for _, q := range questions() {
		if q.no {
			continue
		}
		if !hasAll(q.units, q.lits) {
			t.Fatalf("%v: not all that was given is in %v", q, q.units)
		}
		again := ask(q.c, q.units)
		if again.no || !slices.Equal(again.units, q.units) {
			t.Fatalf("%v: from %v %v, %v follows", q, q.units, again.units, again.no)
		}
		// Also from some of it beside what was given, in any order.
		some := shuffled(&d, q.units)[:d.below(len(q.units)+1)]
		beside := ask(q.c, slices.Concat(some, q.lits)[:min(len(some)+len(q.lits), impl.CnfMaxLits)])
		if beside.no || !hasAll(q.units, beside.units) {
			t.Fatalf("%v: with %v beside, %v, %v follows, not %v", q, some, beside.units, beside.no, q.units)
		}
		if len(some)+len(q.lits) <= impl.CnfMaxLits && !slices.Equal(beside.units, q.units) {
			t.Fatalf("%v: with %v beside, %v follows, not %v", q, some, beside.units, q.units)
		}
		// And from each alone no more.
		for _, lit := range brief(q.units) {
			if one := ask(q.c, []int{lit}); one.no || !hasAll(q.units, one.units) {
				t.Fatalf("%v: from %d alone %v, %v follows, not in %v", q, lit, one.units, one.no, q.units)
			}
		}
	}
}

func TestPromise56WithMoreLiteralsNoLessFollows(t *testing.T) {
	d := dice(56)
	can, grown := 0, 0
	for _, q := range questions() {
		for range 4 {
			if q.c.Vars == 0 {
				continue
			}
			lits := shuffled(&d, slices.Concat(q.lits, thrownLits(&d, q.c.Vars, 1+d.below(3))))
			more := ask(q.c, lits)
			if more.no {
				continue
			}
			can++
			if q.no || !hasAll(more.units, q.units) || !hasAll(more.units, lits) {
				t.Fatalf("%v: %v, %v; but of %v only %v", q, q.units, q.no, lits, more.units)
			}
			if len(more.units) > len(q.units) {
				grown++
			}
		}
		for i := range q.lits {
			if less := ask(q.c, slices.Delete(slices.Clone(q.lits), i, i+1)); !q.no && (less.no || !hasAll(q.units, less.units)) {
				t.Fatalf("%v: %v; but without %d %v, %v", q, q.units, q.lits[i], less.units, less.no)
			}
		}
	}
	if can < 1000 || grown < 500 {
		t.Errorf("only %d can be, in %d of them more follows", can, grown)
	}
}

func TestPromise57ItDoesNotMatterInWhichOrderClausesStand(t *testing.T) {
	d := dice(57)
	for _, q := range questions() {
		turned := impl.Cnf{Vars: q.c.Vars, Clauses: slices.Clone(q.c.Clauses)}
		slices.Reverse(turned.Clauses)
		for _, c := range []impl.Cnf{turned, {Vars: q.c.Vars, Clauses: shuffled(&d, q.c.Clauses)}, {Vars: q.c.Vars, Clauses: shuffled(&d, q.c.Clauses)}} {
			if again := ask(c, q.lits); again.no != q.no || !slices.Equal(again.units, q.units) {
				t.Fatalf("%v: %v, %v; in another order %v, %v", q, q.units, q.no, again.units, again.no)
			}
			for _, model := range someModels(q.c.Vars) {
				if impl.CnfTrue(c, model) != impl.CnfTrue(q.c, model) {
					t.Fatalf("%v: of %v in another order", q, model)
				}
			}
		}
	}
}

func TestItDoesNotMatterHowOftenAndWhereAnythingStands(t *testing.T) {
	d := dice(58)
	for _, q := range questions() {
		if len(q.c.Clauses) > impl.CnfMaxClauses/2 {
			continue
		}
		// Each clause stands twice, with its literals in another order, some of them twice.
		twice := impl.Cnf{Vars: q.c.Vars}
		for _, clause := range slices.Concat(q.c.Clauses, q.c.Clauses) {
			often := slices.Concat(clause, clause[:d.below(len(clause)+1)])
			twice.Clauses = append(twice.Clauses, shuffled(&d, often))
		}
		lits := shuffled(&d, slices.Concat(q.lits, q.lits))
		if again := ask(twice, lits); again.no != q.no || !slices.Equal(again.units, q.units) {
			t.Fatalf("%v: %v, %v; with all twice %v, %v", q, q.units, q.no, again.units, again.no)
		}
		for _, model := range someModels(q.c.Vars) {
			if impl.CnfTrue(twice, model) != impl.CnfTrue(q.c, model) {
				t.Fatalf("%v: of %v with all twice", q, model)
			}
		}
	}
}

func TestPromise58WhatCannotBeAtOnceIsSoInNoModel(t *testing.T) {
	cannot := 0
	for _, q := range smallQuestions() {
		if !q.no {
			continue
		}
		cannot++
		if len(q.units) > 0 {
			t.Fatalf("%v: %v beside what cannot be", q, q.units)
		}
		for _, model := range allModels(q.c.Vars) {
			if impl.CnfTrue(q.c, model) && areSo(model, q.lits) {
				t.Fatalf("%v cannot be, but %v is a model", q, model)
			}
		}
	}
	if cannot < 500 {
		t.Errorf("only %d cannot be", cannot)
	}
}

func TestWhatFollowsAscendsByVariables(t *testing.T) {
	for _, q := range questions() {
		last := 0
		for _, lit := range q.units {
			v := max(lit, -lit)
			if v <= last || v > q.c.Vars {
				t.Fatalf("%v: %v does not ascend by variables", q, q.units)
			}
			last = v
		}
	}
}
