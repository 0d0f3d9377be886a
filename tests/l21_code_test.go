package tests

import (
	"slices"
	"testing"

	"loop.example/drydock/impl"
)

func TestCodesByTheWords(t *testing.T) {
	for _, k := range codings() {
		want := codeByWords(k.c.r, setOf(k.from), setOf(k.to), k.n)
		if !sameCnf(k.cnf, want) {
			t.Fatalf("%v: clauses %v, not %v", k, k.cnf, want)
		}
		if !impl.CnfOk(k.cnf) {
			t.Fatalf("%v: clauses are not ok", k)
		}
	}
	if len(codings()) < 4000 {
		t.Errorf("only %d", len(codings()))
	}
}

func TestModelsOfPlansByTheWords(t *testing.T) {
	eachShortWalk(t, func(c chart, from, to int, steps []impl.Step) {
		model, ok := impl.CodeModel(c.r, setOf(from), steps)
		if want := modelByWords(c.r, setOf(from), steps); !ok || !slices.Equal(model, want) {
			t.Fatalf("%v: from %v by %v: %v, %v, not %v", c.r, setOf(from), steps, model, ok, want)
		}
	})
}

func TestPromise85ModelsAreJustPlans(t *testing.T) {
	all := 0
	for _, k := range codings() {
		plans, few := k.c.plansOf(k.from, k.to, k.n, 8)
		if !few {
			continue
		}
		all += len(plans)
		// Each model that is found is forbidden, until there is none.
		f := k.f
		for ; f.code == impl.SatYes; f = find(with(f.c, times(-1, litsOf(f.model))), impl.SatMax) {
			steps, ok := impl.CodePlan(k.c.r, k.n, f.model)
			place := slices.IndexFunc(plans, func(plan []impl.Step) bool { return slices.Equal(plan, steps) })
			if !ok || place < 0 || len(steps) != k.n || !impl.PlanOk(k.c.r, setOf(k.from), setOf(k.to), steps) {
				t.Fatalf("%v: %v, %v is no plan, or is found twice", k, steps, ok)
			}
			plans = slices.Delete(plans, place, place+1)
		}
		if f.code != impl.SatNo || !impl.SatProof(f.c, f.proof) {
			t.Fatalf("%v: that there are no more is not refuted, answer %d", k, f.code)
		}
		if len(plans) > 0 {
			t.Fatalf("%v: no models are %v", k, plans)
		}
	}
	if all < 1500 {
		t.Errorf("only %d plans", all)
	}
}

func TestPromise85OfAllModelsJustThoseOfPlansHold(t *testing.T) {
	asked, models := 0, 0
	for _, c := range codeCharts() {
		for n := range impl.CodeMaxSteps + 1 {
			vars := (n+1)*len(c.r.Packs) + n*len(c.steps)
			// More would take too long, and fewer are all alike.
			if vars > 14 || vars < 3 || asked > 150 {
				continue
			}
			asked++
			to := c.states[asked%len(c.states)]
			k := codingOf(c, c.states[0], to, n)
			var held []string
			for _, model := range allModels(vars) {
				if impl.CnfTrue(k.cnf, model) {
					held = append(held, toldModel(model))
				}
			}
			var want []string
			plans, _ := c.plansOf(k.from, k.to, n, 1000000)
			for _, plan := range plans {
				want = append(want, toldModel(modelByWords(c.r, setOf(k.from), plan)))
			}
			slices.Sort(held)
			slices.Sort(want)
			if !slices.Equal(held, want) {
				t.Fatalf("%v: %v hold, not %v", k, held, want)
			}
			models += len(held)
		}
	}
	if asked < 60 || models < 60 {
		t.Errorf("only %d with %d models", asked, models)
	}
}

// toldModel is a model in a text.
func toldModel(model []bool) string {
	text := ""
	for _, so := range model {
		if so {
			text += "1"
		} else {
			text += "0"
		}
	}
	return text
}

func TestPromise85WhatIsNotThereIsRefuted(t *testing.T) {
	eachCoding(t, impl.SatNo, func(k coding) {
		if !impl.SatProof(k.cnf, k.f.proof) || k.c.leadsIn(k.from, k.to, k.n) {
			t.Fatalf("%v: refuted by %v", k, brief(k.f.proof))
		}
	})
}

func TestPromise86APlanIsAModel(t *testing.T) {
	eachShortWalk(t, func(c chart, from, to int, steps []impl.Step) {
		clauses, ok := impl.CodeOf(c.r, setOf(from), setOf(to), len(steps))
		model, is := impl.CodeModel(c.r, setOf(from), steps)
		if !ok || !is || !impl.CnfTrue(clauses, model) || !allHold(clauses, model) {
			t.Fatalf("%v: from %v to %v by %v: %v, %v is no model", c.r, setOf(from), setOf(to), steps, model, is)
		}
		// Of other ends it is none.
		for _, other := range some(c.states, 3) {
			led, _ := impl.CodeOf(c.r, setOf(from), setOf(other), len(steps))
			left, _ := impl.CodeOf(c.r, setOf(other), setOf(to), len(steps))
			if impl.CnfTrue(led, model) != (other == to) || impl.CnfTrue(left, model) != (other == from) {
				t.Fatalf("%v: from %v to %v by %v is a model of %v, or is none", c.r, setOf(from), setOf(to), steps, setOf(other))
			}
		}
	})
}

func TestPromise86WhatDiffersFromAPlanInOneVariableIsNoModel(t *testing.T) {
	walks := 0
	eachShortWalk(t, func(c chart, from, to int, steps []impl.Step) {
		if walks++; walks%5 != 0 {
			return
		}
		clauses, _ := impl.CodeOf(c.r, setOf(from), setOf(to), len(steps))
		model, _ := impl.CodeModel(c.r, setOf(from), steps)
		for i := range model {
			model[i] = !model[i]
			if impl.CnfTrue(clauses, model) {
				t.Fatalf("%v: from %v to %v by %v: a model with variable %d turned, too", c.r, setOf(from), setOf(to), steps, i+1)
			}
			model[i] = !model[i]
		}
	})
}

func TestPromise87APlanIsReadBack(t *testing.T) {
	eachShortWalk(t, func(c chart, from, to int, steps []impl.Step) {
		model, _ := impl.CodeModel(c.r, setOf(from), steps)
		if back, ok := impl.CodePlan(c.r, len(steps), model); !ok || !slices.Equal(back, steps) {
			t.Fatalf("%v: from %v by %v, read back %v, %v", c.r, setOf(from), steps, back, ok)
		}
	})
	// And a model that was found is that of its plan.
	eachCoding(t, impl.SatYes, func(k coding) {
		steps, ok := impl.CodePlan(k.c.r, k.n, k.f.model)
		back, is := impl.CodeModel(k.c.r, setOf(k.from), steps)
		if !ok || !is || !slices.Equal(back, k.f.model) {
			t.Fatalf("%v: of %v another model", k, steps)
		}
	})
}

func TestPromise88AModelJustIfSoManyStepsLeadThere(t *testing.T) {
	long := 0
	for _, k := range codings() {
		leads := k.c.leadsIn(k.from, k.to, k.n)
		switch k.f.code {
		case impl.SatYes:
			if !leads {
				t.Fatalf("%v: a model, but they do not lead there", k)
			}
		case impl.SatNo:
			if leads {
				t.Fatalf("%v: no model, but they lead there", k)
			}
		case impl.SatLong:
			long++
		default:
			t.Fatal(k)
		}
	}
	if long > len(codings())/100 {
		t.Errorf("%d take too long", long)
	}
	eachCoding(t, impl.SatYes, func(coding) {})
	eachCoding(t, impl.SatNo, func(coding) {})
}

func TestPromise88TheShortestPlanHasAModelAndNoLesserNumber(t *testing.T) {
	lengths := map[int]int{}
	for _, c := range codeCharts() {
		for _, to := range some(c.states, 5) {
			for _, from := range some(c.states, 4) {
				plan, ok := impl.PlanFind(c.r, setOf(from), setOf(to))
				if !ok || len(plan) > impl.CodeMaxSteps {
					continue
				}
				lengths[len(plan)]++
				for n := range len(plan) + 1 {
					if k := codingOf(c, from, to, n); k.f.code != impl.SatLong && (k.f.code == impl.SatYes) != (n == len(plan)) {
						t.Fatalf("%v, but the shortest plan is %v", k, plan)
					}
				}
			}
		}
	}
	for n := range impl.CodeMaxSteps + 1 {
		if lengths[n] < 20 {
			t.Errorf("only %d plans of %d steps", lengths[n], n)
		}
	}
}

func TestPromise89OfNoStepBothStatesAreTheSameAndHealthy(t *testing.T) {
	same, other, ill := 0, 0, 0
	for _, c := range codeCharts() {
		sets := len(allSets(len(c.r.Packs)))
		for from := range sets {
			// Of itself, of what is one pack more or less, and of all, if they are few.
			for to := range sets {
				if apart := from ^ to; apart&(apart-1) != 0 && sets > 8 {
					continue
				}
				k := codingOf(c, from, to, 0)
				healthy := unserved(c.r, setOf(from)) == ""
				if (k.f.code == impl.SatYes) != (from == to && healthy) || k.f.code != impl.SatYes && k.f.code != impl.SatNo {
					t.Fatal(k)
				}
				switch {
				case from != to:
					other++
				case healthy:
					same++
				default:
					ill++
				}
			}
		}
	}
	if same < 1000 || other < 1000 || ill < 1000 {
		t.Errorf("only %d the same and healthy, %d not the same, %d not healthy", same, other, ill)
	}
}

func TestPromise90AtEachPlaceOfAModelPacksAreHealthy(t *testing.T) {
	eachCoding(t, impl.SatYes, func(k coding) {
		packs := len(k.c.r.Packs)
		steps, _ := impl.CodePlan(k.c.r, k.n, k.f.model)
		set := setOf(k.from)
		for behind := range k.n + 1 {
			here := thereIn(k.f.model, packs, behind)
			if !impl.StateOk(k.c.r, here) || unserved(k.c.r, here) != "" || !slices.Equal(here, set) {
				t.Fatalf("%v: behind %d steps %v, by %v %v", k, behind, here, steps, set)
			}
			if behind < k.n {
				set, _ = impl.StepDo(k.c.r, set, steps[behind])
			}
		}
		if !slices.Equal(thereIn(k.f.model, packs, 0), setOf(k.from)) || !slices.Equal(thereIn(k.f.model, packs, k.n), setOf(k.to)) {
			t.Fatalf("%v: other ends", k)
		}
	})
}

func TestPromise91JustAsManyVariables(t *testing.T) {
	for _, c := range codeCharts() {
		for n := range impl.CodeMaxSteps + 1 {
			clauses, ok := impl.CodeOf(c.r, nil, nil, n)
			want := (n+1)*len(c.r.Packs) + n*len(impl.StepAll(c.r))
			if !ok || clauses.Vars != want {
				t.Fatalf("%v: of %d steps %d variables, not %d", c.r, n, clauses.Vars, want)
			}
			// All of them are spoken of, if anything is there.
			for v := 1; v <= want; v++ {
				if !slices.ContainsFunc(clauses.Clauses, func(clause []int) bool { return slices.Contains(clause, v) || slices.Contains(clause, -v) }) && (v <= len(c.r.Packs) || v > n*len(c.r.Packs)) {
					t.Fatalf("%v: of %d steps nothing is said of %d", c.r, n, v)
				}
			}
			// A model of plans is just of as many.
			for _, more := range []int{-1, 0, 1} {
				if want+more < 0 {
					continue
				}
				model := make([]bool, want+more)
				for ahead := range n {
					if place := (n+1)*len(c.r.Packs) + ahead*len(c.steps); place < len(model) {
						model[place] = true
					}
				}
				if steps, told := impl.CodePlan(c.r, n, model); told != (more == 0 && (n == 0 || len(c.steps) > 0)) || !told && len(steps) > 0 {
					t.Fatalf("%v: of %d steps and %d variables more %v, %v", c.r, n, more, steps, told)
				}
			}
		}
	}
}

func TestPromise92JustOneStepAtEachPlace(t *testing.T) {
	d := dice(213)
	told, many, none := 0, 0, 0
	for _, c := range codeCharts() {
		for n := range impl.CodeMaxSteps + 1 {
			for range 6 {
				// What is there does not matter, nor whether steps are allowed.
				model := modelOf((n+1)*len(c.r.Packs), d.below(1<<30))
				var want []impl.Step
				just := true
				for range n {
					row := make([]bool, len(c.steps))
					count := []int{1, 1, 1, 1, 1, 1, 0, 2, len(row)}[d.below(9)]
					for i, place := range shuffled(&d, upTo(len(row)))[:min(count, len(row))] {
						row[place] = true
						if i == 0 {
							want = append(want, c.steps[place])
						}
					}
					model = append(model, row...)
					switch count = min(count, len(row)); {
					case count > 1:
						many++
					case count < 1:
						none++
					}
					just = just && count == 1
				}
				if !just {
					want = nil
				} else {
					told++
				}
				if steps, ok := impl.CodePlan(c.r, n, model); ok != just || !slices.Equal(steps, want) {
					t.Fatalf("%v: of %d steps %v is %v, %v, not %v, %v", c.r, n, toldModel(model), steps, ok, want, just)
				}
			}
		}
	}
	if told < 1000 || many < 500 || none < 500 {
		t.Errorf("only %d are told, %d with several at a place, %d with none", told, many, none)
	}
}

func TestPromise92AnotherStepOrNone(t *testing.T) {
	walks := 0
	eachShortWalk(t, func(c chart, from, to int, steps []impl.Step) {
		if walks++; walks%4 != 0 {
			return
		}
		model, _ := impl.CodeModel(c.r, setOf(from), steps)
		start := (len(steps) + 1) * len(c.r.Packs)
		for i := start; i < len(model); i++ {
			model[i] = !model[i]
			if got, ok := impl.CodePlan(c.r, len(steps), model); ok || len(got) > 0 {
				t.Fatalf("%v: %v with variable %d turned is %v", c.r, steps, i+1, got)
			}
			model[i] = !model[i]
		}
		for i := range start {
			model[i] = !model[i]
			if got, ok := impl.CodePlan(c.r, len(steps), model); !ok || !slices.Equal(got, steps) {
				t.Fatalf("%v: %v with variable %d turned is %v, %v", c.r, steps, i+1, got, ok)
			}
		}
	})
}

func TestPromise93WithMoreRoomAModelIsOneStill(t *testing.T) {
	d := dice(214)
	eachShortWalk(t, func(c chart, from, to int, steps []impl.Step) {
		model, _ := impl.CodeModel(c.r, setOf(from), steps)
		for _, room := range []int{c.r.Room + 1, c.r.Room + 1 + d.below(9), impl.RepoMaxSize} {
			if room > impl.RepoMaxSize {
				continue
			}
			more := withRoom(c.r, room)
			clauses, ok := impl.CodeOf(more, setOf(from), setOf(to), len(steps))
			again, is := impl.CodeModel(more, setOf(from), steps)
			if !ok || !impl.CnfTrue(clauses, model) || !is || !slices.Equal(again, model) {
				t.Fatalf("%v: with room %d from %v to %v by %v no more: %v, %v", c.r, room, setOf(from), setOf(to), steps, again, is)
			}
		}
	})
	// So each model that was found is one, too.
	eachCoding(t, impl.SatYes, func(k coding) {
		clauses, _ := impl.CodeOf(withRoom(k.c.r, impl.RepoMaxSize), setOf(k.from), setOf(k.to), k.n)
		if !impl.CnfTrue(clauses, k.f.model) {
			t.Fatalf("%v: no model with all room", k)
		}
	})
}

func TestOfWithLessRoomAModelMayBeNone(t *testing.T) {
	lost := 0
	eachShortWalk(t, func(c chart, from, to int, steps []impl.Step) {
		model, _ := impl.CodeModel(c.r, setOf(from), steps)
		less := withRoom(c.r, c.r.Room-1)
		if less.Room < 0 {
			return
		}
		clauses, ok := impl.CodeOf(less, setOf(from), setOf(to), len(steps))
		end, leads := chartOf(less).walkFrom(from, steps)
		if !ok || impl.CnfTrue(clauses, model) != (leads && end == to) {
			t.Fatalf("%v: with less room by %v: a model, or none", c.r, steps)
		}
		if !leads {
			lost++
		}
	})
	if lost < 50 {
		t.Errorf("only %d lost", lost)
	}
}

// walkFrom is walk from a state that need not be healthy.
func (c chart) walkFrom(bits int, steps []impl.Step) (int, bool) {
	if _, healthy := c.leads[bits]; !healthy {
		return 0, false
	}
	return c.walk(bits, steps)
}
