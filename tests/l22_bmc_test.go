package tests

import (
	"slices"
	"testing"

	"loop.example/drydock/impl"
)

func TestLooksByTheWords(t *testing.T) {
	for _, l := range lookings() {
		if want := foundByWords(l.c.r, setOf(l.from), setOf(l.to), l.most); !sameFound(l.f, want) {
			t.Fatalf("%v; not %s", l, toldFound(want))
		}
	}
	if len(lookings()) < 8000 {
		t.Errorf("only %d", len(lookings()))
	}
}

func TestPromise94WhatIsFoundIsAShortestPlan(t *testing.T) {
	shorter := 0
	check := func(l looking) {
		plan, ok := impl.PlanFind(l.c.r, setOf(l.from), setOf(l.to))
		if !ok || len(plan) != len(l.f.Steps) || len(l.f.Steps) != l.c.shortest(l.from, l.to, l.most) {
			t.Fatalf("%v; shortest is %v, %v", l, plan, ok)
		}
		if end, leads := l.c.walk(l.from, l.f.Steps); !leads || end != l.to || !impl.PlanOk(l.c.r, setOf(l.from), setOf(l.to), l.f.Steps) {
			t.Fatalf("%v; that is no plan", l)
		}
		if len(l.f.Steps) < l.most {
			shorter++
		}
	}
	for _, l := range farLookings() {
		if l.f.Code != impl.BmcPlan {
			t.Fatalf("%v; but there is a plan", l)
		}
	}
	eachLooking(t, impl.BmcPlan, check)
	if shorter < 1000 {
		t.Errorf("only %d plans of fewer steps than most", shorter)
	}
}

func TestPromise95WhatIsNotFoundIsNotThere(t *testing.T) {
	ill, far := 0, 0
	for _, l := range lookings() {
		n := l.c.shortest(l.from, l.to, l.most)
		if (l.f.Code == impl.BmcNone) != (n < 0) || (l.f.Code == impl.BmcPlan) != (n >= 0) {
			t.Fatalf("%v; shortest is of %d steps", l, n)
		}
		if n >= 0 {
			continue
		}
		plan, ok := impl.PlanFind(l.c.r, setOf(l.from), setOf(l.to))
		if ok && len(plan) <= l.most || len(l.f.Steps) > 0 {
			t.Fatalf("%v; but %v is a plan", l, plan)
		}
		if ok {
			far++
		}
		if unserved(l.c.r, setOf(l.from)) != "" || unserved(l.c.r, setOf(l.to)) != "" {
			ill++
		}
	}
	if ill < 300 || far < 300 {
		t.Errorf("only %d are not healthy, and of %d there is a longer plan", ill, far)
	}
	// With the last state out of reach there is none, however many steps are looked for; else there is one of as many as PlanFind tells.
	for _, c := range codeCharts() {
		from := c.states[len(c.states)/2]
		for _, to := range some(c.states, 2) {
			plan, ok := impl.PlanFind(c.r, setOf(from), setOf(to))
			for most := range impl.CodeMaxSteps + 1 {
				if f := impl.BmcFind(c.r, setOf(from), setOf(to), most); (f.Code == impl.BmcPlan) != (ok && len(plan) <= most) {
					t.Fatalf("%v; PlanFind tells %v, %v", looking{c, from, to, most, f}, plan, ok)
				}
			}
		}
	}
}

func TestPromise96WhatIsFoundIsRight(t *testing.T) {
	for _, l := range slices.Concat(lookings(), farLookings()) {
		if l.f.Code != impl.BmcPlan && l.f.Code != impl.BmcNone {
			t.Fatalf("%v; neither found nor refuted", l)
		}
		if !impl.BmcOk(l.c.r, setOf(l.from), setOf(l.to), l.most, l.f) {
			t.Fatalf("%v; told not to be right", l)
		}
	}
}

func TestPromise96WhatIsNotRightIsToldNotToBe(t *testing.T) {
	d := dice(221)
	right, wrong := 0, 0
	check := func(l looking) {
		j := judgeOf(l)
		for _, f := range append(wrecks(&d, l), l.f) {
			for _, most := range []int{l.most, d.below(impl.CodeMaxSteps+3) - 1} {
				want := j.right(most, f)
				if impl.BmcOk(l.c.r, setOf(l.from), setOf(l.to), most, f) != want {
					t.Fatalf("%v; by %d steps at most %v of %s", l, most, !want, toldFound(f))
				}
				if want {
					right++
				} else {
					wrong++
				}
			}
		}
	}
	for i, l := range lookings() {
		if i%16 == 0 {
			check(l)
		}
	}
	for _, l := range some(farLookings(), 60) {
		check(l)
	}
	if right < 3000 || wrong < 30000 {
		t.Errorf("only %d are right, %d wrong", right, wrong)
	}
}

func TestPromise96WhatIsRightOfOtherPacksOrStates(t *testing.T) {
	list := lookings()
	right := 0
	for i, l := range list {
		if i%7 > 0 {
			continue
		}
		other := list[(i*13+5)%len(list)]
		j := judge{looking{other.c, l.from, l.to, l.most, l.f}, nil}
		if max(l.from, l.to) < 1<<len(other.c.r.Packs) {
			j = judgeOf(j.looking)
		}
		is := impl.BmcOk(other.c.r, setOf(l.from), setOf(l.to), l.most, l.f)
		if is != (len(j.codes) > 0 && j.right(l.most, l.f)) {
			t.Fatalf("%v; of %v %v", l, other.c.r, is)
		}
		if is {
			right++
		}
		turned := judgeOf(looking{l.c, l.to, l.from, l.most, l.f})
		if impl.BmcOk(l.c.r, setOf(l.to), setOf(l.from), l.most, l.f) != turned.right(l.most, l.f) {
			t.Fatalf("%v; turned about it is judged otherwise", l)
		}
	}
	if right < 100 {
		t.Errorf("only %d", right)
	}
}

func TestPromise97OneStepFurtherFindsTheSame(t *testing.T) {
	further := 0
	for _, l := range lookings() {
		if l.most == impl.CodeMaxSteps {
			continue
		}
		next := look(l.c, l.from, l.to, l.most+1)
		if l.f.Code == impl.BmcPlan {
			if !sameFound(next.f, l.f) || !impl.BmcOk(l.c.r, setOf(l.from), setOf(l.to), l.most+1, l.f) {
				t.Fatalf("%v; otherwise one step further: %v", l, next)
			}
			continue
		}
		// What was refuted is refuted the same; and what is found then is of just one step more.
		if len(next.f.Proofs) < len(l.f.Proofs) || !slices.EqualFunc(next.f.Proofs[:len(l.f.Proofs)], l.f.Proofs, sameSets) {
			t.Fatalf("%v; refuted otherwise one step further: %v", l, next)
		}
		if next.f.Code == impl.BmcPlan {
			further++
		}
		if next.f.Code == impl.BmcPlan && len(next.f.Steps) != l.most+1 || next.f.Code != impl.BmcPlan && next.f.Code != impl.BmcNone {
			t.Fatalf("%v; one step further: %v", l, next)
		}
		if impl.BmcOk(l.c.r, setOf(l.from), setOf(l.to), l.most+1, l.f) || impl.BmcOk(l.c.r, setOf(l.from), setOf(l.to), l.most, next.f) {
			t.Fatalf("%v; right one step further, too, or the other way about", l)
		}
	}
	if further < 300 {
		t.Errorf("only %d are found one step further", further)
	}
}

func TestPromise98ARefutationForEachLesserNumber(t *testing.T) {
	asked := map[int]int{}
	refuted := func(l looking, numbers int) {
		if len(l.f.Proofs) != numbers {
			t.Fatalf("%v; not %d refutations", l, numbers)
		}
		for n, proof := range l.f.Proofs {
			asked[n]++
			clauses, ok := impl.CodeOf(l.c.r, setOf(l.from), setOf(l.to), n)
			if !ok || !impl.SatProof(clauses, proof) || l.c.leadsIn(l.from, l.to, n) {
				t.Fatalf("%v; that of %d steps is none", l, n)
			}
			// By the words, too, where that does not take too long.
			if asked[n]%10 == 0 && len(clauses.Clauses)*len(proof) < 3000 && !refutes(clauses, proof) {
				t.Fatalf("%v; by the words that of %d steps is none", l, n)
			}
		}
	}
	eachLooking(t, impl.BmcNone, func(l looking) { refuted(l, l.most+1) })
	eachLooking(t, impl.BmcPlan, func(l looking) { refuted(l, len(l.f.Steps)) })
	for n := range impl.CodeMaxSteps + 1 {
		if asked[n] < 300 {
			t.Errorf("only %d of %d steps", asked[n], n)
		}
	}
}

func TestPromise98WithoutARefutationItIsNotRight(t *testing.T) {
	for i, l := range slices.Concat(lookings(), farLookings()) {
		if i%5 > 0 {
			continue
		}
		for place := range l.f.Proofs {
			f := copyFound(l.f)
			f.Proofs = slices.Delete(f.Proofs, place, place+1)
			if impl.BmcOk(l.c.r, setOf(l.from), setOf(l.to), l.most, f) {
				t.Fatalf("%v; right without that of %d steps", l, place)
			}
			for _, none := range [][][]int{nil, {}, l.f.Proofs[place][:len(l.f.Proofs[place])-1]} {
				f = copyFound(l.f)
				f.Proofs[place] = none
				if impl.BmcOk(l.c.r, setOf(l.from), setOf(l.to), l.most, f) {
					t.Fatalf("%v; right with %v of %d steps", l, none, place)
				}
			}
		}
	}
}

func TestOtherShortestPlansAreRightToo(t *testing.T) {
	others := 0
	for i, l := range slices.Concat(lookings(), farLookings()) {
		if l.f.Code != impl.BmcPlan || i%5 > 0 {
			continue
		}
		plans, _ := l.c.plansOf(l.from, l.to, len(l.f.Steps), 100)
		for _, plan := range plans {
			f := copyFound(l.f)
			f.Steps = plan
			if !impl.BmcOk(l.c.r, setOf(l.from), setOf(l.to), l.most, f) {
				t.Fatalf("%v; %v is told not to be right", l, plan)
			}
			if !slices.Equal(plan, l.f.Steps) {
				others++
			}
		}
		// Of longer ones no lesser number is refuted: there is a plan.
		for _, longer := range some(l.longer(), 4) {
			f := copyFound(l.f)
			f.Steps = longer
			f.Proofs = resized(f.Proofs, len(longer))
			if impl.BmcOk(l.c.r, setOf(l.from), setOf(l.to), impl.CodeMaxSteps, f) {
				t.Fatalf("%v; %v, which is longer, is told to be right", l, longer)
			}
		}
	}
	if others < 300 {
		t.Errorf("only %d", others)
	}
}

// longer is a few plans of more steps than the one that was found.
func (l looking) longer() [][]impl.Step {
	var list [][]impl.Step
	for n := len(l.f.Steps) + 1; n <= impl.CodeMaxSteps; n++ {
		plans, _ := l.c.plansOf(l.from, l.to, n, 50)
		list = append(list, plans...)
	}
	return list
}
