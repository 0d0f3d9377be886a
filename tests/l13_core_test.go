package tests

import (
	"slices"
	"testing"

	"loop.example/drydock/impl"
)

func TestCoresByTheWords(t *testing.T) {
	whole, part := 0, 0
	for _, k := range corings() {
		if want := coringByWords(k.c); !k.as(want) {
			t.Fatalf("%v, not %v", k, want)
		}
		if k.is && len(k.core) == len(k.c.Clauses) {
			whole++
		} else if k.is {
			part++
		}
	}
	if whole < 100 || part < 100 {
		t.Errorf("only %d cores of all clauses, %d of some", whole, part)
	}
}

func TestPromise76ACoreHasNoModelAndNoClauseTooMany(t *testing.T) {
	eachCoring(t, false, func(k coring) {
		few := at(k.c, k.core)
		if !k.is || len(k.core) == 0 || hasModel(few) || find(few, impl.SatMax).code != impl.SatNo {
			t.Fatalf("%v: the core has a model", k)
		}
		for i := range k.core {
			if less := without(few, i); !hasModel(less) || find(less, impl.SatMax).code != impl.SatYes {
				t.Fatalf("%v: no model without %d", k, k.core[i])
			}
		}
		// So it is a core of its own, all of it.
		if again, is := impl.CoreOf(few); !is || len(again) != len(k.core) {
			t.Fatalf("%v: of the core only %v", k, again)
		}
	})
}

func TestPromise76WhatWentAheadWasNotNeededThen(t *testing.T) {
	gone, stayed := 0, 0
	eachCoring(t, false, func(k coring) {
		for place := range k.c.Clauses {
			// Those that were left when it was asked: of those ahead only what the core has, all that stand behind.
			left := slices.DeleteFunc(slices.Clone(k.core), func(other int) bool { return other >= place })
			for behind := place + 1; behind < len(k.c.Clauses); behind++ {
				left = append(left, behind)
			}
			if slices.Contains(k.core, place) != hasModel(at(k.c, left)) {
				t.Fatalf("%v: %d is left, or went, where it should not", k, place)
			}
			if slices.Contains(k.core, place) {
				stayed++
			} else {
				gone++
			}
		}
	})
	if gone < 1000 || stayed < 1000 {
		t.Errorf("only %d went, %d stayed", gone, stayed)
	}
}

func TestPromise77ACoreJustIfThereIsNoModel(t *testing.T) {
	for _, k := range corings() {
		f := find(k.c, impl.SatMax)
		if k.is != (f.code == impl.SatNo) || k.is == (f.code == impl.SatYes) || k.is == hasModel(k.c) || k.is != (len(k.core) > 0) {
			t.Fatalf("%v, but %v", k, f)
		}
	}
}

func TestPromise78PlacesOfACoreAscend(t *testing.T) {
	several := 0
	eachCoring(t, false, func(k coring) {
		last := -1
		for _, place := range k.core {
			if place <= last || place >= len(k.c.Clauses) {
				t.Fatalf("%v: %d behind %d", k, place, last)
			}
			last = place
		}
		if len(k.core) > 3 {
			several++
		}
	})
	if several < 200 {
		t.Errorf("only %d cores of several clauses", several)
	}
}

func TestPromise79ModelsJustIfThereAreMoreThanNone(t *testing.T) {
	for _, k := range corings() {
		f := find(k.c, impl.SatMax)
		if k.count < 0 || k.count > 1<<k.c.Vars || (k.count > 0) != (f.code == impl.SatYes) || (k.count == 0) != k.is {
			t.Fatalf("%v, but %v", k, f)
		}
	}
}

func TestPromise79EachModelCounts(t *testing.T) {
	// Each model that is forbidden is one less, until none is left.
	for _, k := range corings()[:400] {
		c := k.c
		for left := k.count; len(c.Clauses) < coreClauses && left > 0; left-- {
			f := find(c, impl.SatMax)
			c = with(c, times(-1, litsOf(f.model)))
			if impl.CoreCount(c) != left-1 {
				t.Fatalf("%v: %d models with all forbidden but %d", k, impl.CoreCount(c), left-1)
			}
		}
	}
}

func TestPromise80ThoseInWhichAVariableIsSoAndThoseInWhichItIsNot(t *testing.T) {
	both := 0
	for _, k := range corings() {
		for v := 1; v <= k.c.Vars && len(k.c.Clauses) < coreClauses; v++ {
			so, not := impl.CoreCount(with(k.c, []int{v})), impl.CoreCount(with(k.c, []int{-v}))
			if so+not != k.count || so < 0 || not < 0 {
				t.Fatalf("%v: with %d %d, without it %d", k, v, so, not)
			}
			if so > 0 && not > 0 {
				both++
			}
		}
	}
	if both < 1000 {
		t.Errorf("only %d variables can be both", both)
	}
}

func TestPromise81WithAClauseLessNoFewerModels(t *testing.T) {
	more, same := 0, 0
	for _, k := range corings() {
		for i := range k.c.Clauses {
			less := impl.CoreCount(without(k.c, i))
			// Those that come are just those in which that clause does not hold.
			came := 0
			for _, model := range modelsWith(without(k.c, i)) {
				if !allHold(cnf(k.c.Vars, k.c.Clauses[i]), model) {
					came++
				}
			}
			if less < k.count || less != k.count+came {
				t.Fatalf("%v: without clause %d %d models, %d of them new", k, i, less, came)
			}
			if less > k.count {
				more++
			} else {
				same++
			}
		}
	}
	if more < 1000 || same < 1000 {
		t.Errorf("only %d times more, %d times the same", more, same)
	}
}

func TestPromise81WithAVariableMoreTwiceAsMany(t *testing.T) {
	for _, k := range corings() {
		wide := copyCnf(k.c)
		for wide.Vars++; wide.Vars <= impl.CoreMaxVars; wide.Vars++ {
			want := coring{c: wide, core: k.core, is: k.is, count: k.count << (wide.Vars - k.c.Vars), fixed: k.fixed}
			if l := coringOf(wide); !l.as(want) {
				t.Fatalf("%v, not %v", l, want)
			}
		}
	}
}

func TestPromise82WhatIsFixedIsSoInEachModel(t *testing.T) {
	fixed := 0
	eachCoring(t, true, func(k coring) {
		models := modelsWith(k.c)
		last := 0
		for _, lit := range k.fixed {
			if max(lit, -lit) <= last || max(lit, -lit) > k.c.Vars {
				t.Fatalf("%v: not by variables", k)
			}
			last = max(lit, -lit)
			if slices.ContainsFunc(models, func(model []bool) bool { return !isSo(model, lit) }) {
				t.Fatalf("%v: %d is not so in each model", k, lit)
			}
			if len(k.c.Clauses) == coreClauses {
				continue
			}
			fixed++
			no := coringOf(with(k.c, []int{-lit}))
			if no.count != 0 || !no.is || len(no.fixed) > 0 || find(no.c, impl.SatMax).code != impl.SatNo {
				t.Fatalf("%v: with %d forbidden %v", k, lit, no)
			}
			if yes := coringOf(with(k.c, []int{lit})); yes.count != k.count || !slices.Equal(yes.fixed, k.fixed) {
				t.Fatalf("%v: with %d said %v", k, lit, yes)
			}
		}
	})
	if fixed < 500 {
		t.Errorf("only %d are fixed", fixed)
	}
	eachCoring(t, false, func(k coring) {
		if len(k.fixed) > 0 {
			t.Fatalf("%v: fixed, though there is no model", k)
		}
	})
}

func TestPromise83WhatIsNotFixedCanBeBoth(t *testing.T) {
	both := 0
	eachCoring(t, true, func(k coring) {
		for v := 1; v <= k.c.Vars && len(k.c.Clauses) < coreClauses; v++ {
			if slices.Contains(k.fixed, v) || slices.Contains(k.fixed, -v) {
				continue
			}
			both++
			for _, lit := range []int{v, -v} {
				said := coringOf(with(k.c, []int{lit}))
				if said.count < 1 || said.is || !slices.Contains(said.fixed, lit) || !hasAll(said.fixed, k.fixed) {
					t.Fatalf("%v: %d is not fixed, but with it said %v", k, lit, said)
				}
			}
		}
	})
	if both < 500 {
		t.Errorf("only %d are not fixed", both)
	}
}

func TestPromise84WhatFollowsAtOnceIsFixed(t *testing.T) {
	follows, later := 0, 0
	eachCoring(t, true, func(k coring) {
		q := ask(k.c, nil)
		if q.no || !hasAll(k.fixed, q.units) {
			t.Fatalf("%v, but %v follows at once", k, q.units)
		}
		if len(q.units) > 0 {
			follows++
		}
		if len(k.fixed) > len(q.units) {
			later++
		}
		// Also of what is said.
		for _, lit := range k.fixed {
			said := ask(k.c, []int{lit})
			if said.no || !hasAll(k.fixed, said.units) {
				t.Fatalf("%v, but %v follows from %d", k, said.units, lit)
			}
		}
	})
	if follows < 100 || later < 50 {
		t.Errorf("only in %d something follows at once, in %d more is fixed", follows, later)
	}
}

func TestACoreHangsOnTheOrderOfClauses(t *testing.T) {
	d := dice(134)
	other := 0
	for _, k := range corings() {
		turned := copyCnf(k.c)
		slices.Reverse(turned.Clauses)
		for _, c := range []impl.Cnf{turned, cnf(k.c.Vars, shuffled(&d, k.c.Clauses)...)} {
			l := coringOf(c)
			if l.is != k.is || l.count != k.count || !slices.Equal(l.fixed, k.fixed) || !slices.Equal(l.core, coringByWords(c).core) {
				t.Fatalf("%v; in another order %v", k, l)
			}
			if len(l.core) != len(k.core) {
				other++
			}
		}
	}
	if other < 50 {
		t.Errorf("only %d cores of another size", other)
	}
}

func TestOfCoresItDoesNotMatterHowLiteralsStand(t *testing.T) {
	d := dice(135)
	for _, k := range corings() {
		c := impl.Cnf{Vars: k.c.Vars}
		for _, clause := range k.c.Clauses {
			c.Clauses = append(c.Clauses, shuffled(&d, slices.Concat(clause, clause[:d.below(len(clause)+1)])))
		}
		if l := coringOf(c); !l.as(k) {
			t.Fatalf("%v; with literals twice, and in another order, %v", k, l)
		}
		// With all once more behind, none of the first is left.
		if 2*len(c.Clauses) > coreClauses {
			continue
		}
		twice := with(k.c, c.Clauses...)
		want := k
		want.core = nil
		for _, place := range k.core {
			want.core = append(want.core, place+len(c.Clauses))
		}
		if l := coringOf(twice); !l.as(want) {
			t.Fatalf("%v; with all twice %v", k, l)
		}
	}
}
