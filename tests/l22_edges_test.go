package tests

import (
	"fmt"
	"math"
	"runtime"
	"slices"
	"sync"
	"testing"

	"loop.example/drydock/impl"
)

// atOnce is so many refutations of what cannot be at once.
func atOnce(n int) [][][]int {
	return resized(nil, n)
}

// planFound is a plan with refutations of each lesser number of steps.
func planFound(proofs [][][]int, steps ...impl.Step) impl.Found {
	return impl.Found{Code: impl.BmcPlan, Steps: steps, Proofs: proofs}
}

// noneFound is that there is no plan, with refutations.
func noneFound(proofs ...[][]int) impl.Found {
	return impl.Found{Code: impl.BmcNone, Proofs: proofs}
}

// checkLook asks BmcFind for just this, and BmcOk to take it.
func checkLook(t *testing.T, r impl.Repo, from, to []int, most int, want impl.Found) {
	t.Helper()
	if f := impl.BmcFind(r, from, to, most); !sameFound(f, want) {
		t.Errorf("%v: from %v to %v by %d steps at most %s; not %s", r, from, to, most, toldFound(f), toldFound(want))
	}
	checkRight(t, true, r, from, to, most, want)
}

// checkRight asks BmcOk whether what came is right.
func checkRight(t *testing.T, right bool, r impl.Repo, from, to []int, most int, f impl.Found) {
	t.Helper()
	if impl.BmcOk(r, from, to, most, f) != right {
		t.Errorf("%v: from %v to %v by %d steps at most %s: %v", r, brief(from), brief(to), most, toldFound(f), !right)
	}
}

// checkNoLook asks BmcFind for BmcBad and nothing else, and BmcOk to take nothing at all.
func checkNoLook(t *testing.T, r impl.Repo, from, to []int, most int) {
	t.Helper()
	f := impl.BmcFind(r, from, to, most)
	if !sameFound(f, impl.Found{Code: impl.BmcBad}) {
		t.Errorf("%v: from %v to %v by %d steps at most %s; not refused", r, brief(from), brief(to), most, toldFound(f))
	}
	checkRight(t, false, r, from, to, most, f)
	checkRight(t, false, r, from, to, most, planFound(nil))
	checkRight(t, false, r, from, to, most, planFound(atOnce(1), put(0)))
	for n := range impl.CodeMaxSteps + 3 {
		checkRight(t, false, r, from, to, most, noneFound(atOnce(n)...))
	}
}

func TestAnswersOfLooks(t *testing.T) {
	if impl.BmcPlan != 1 || impl.BmcNone != 2 || impl.BmcLong != 3 || impl.BmcBad != 9 {
		t.Error("answers")
	}
}

func TestLooksByHand(t *testing.T) {
	// An app that bans another version asks for a lib that is there ahead: so lib goes first, and what stands on it ahead of that.
	r := dockOf(t, "room 10\npack app 1 3\ndep lib 1 1\npack app 2 4\ndep lib 2 9\npre lib 2 2\npack lib 1 2\npack lib 2 2\nban app 1 1\n")
	// Of two steps it is asked first whether app 1 is there behind one of them: 5, as four packs are told of ahead.
	far := slices.Concat(atOnce(2), [][][]int{{{5}, {-5}, {}}})
	checkLook(t, r, []int{0, 2}, []int{1, 3}, 3, planFound(far, take(0), swap(2, 3), put(1)))
	checkLook(t, r, []int{0, 2}, []int{1, 3}, 4, planFound(far, take(0), swap(2, 3), put(1)))
	checkLook(t, r, []int{0, 2}, []int{1, 3}, 2, noneFound(far...))
	checkLook(t, r, []int{0, 2}, []int{1, 3}, 1, noneFound(atOnce(2)...))
	checkLook(t, r, []int{0, 2}, []int{1, 3}, 0, noneFound(atOnce(1)...))
	// The first model is the one with less ahead: what comes first is the last pack, where PlanFind takes the first one.
	two := ofNames("a", "b")
	checkLook(t, two, nil, []int{0, 1}, 4, planFound(atOnce(2), put(1), put(0)))
	checkFind(t, two, nil, []int{0, 1}, put(0), put(1))
	checkRight(t, true, two, nil, []int{0, 1}, 2, planFound(atOnce(2), put(0), put(1)))
	three := ofNames("a", "b", "c")
	checkLook(t, three, nil, []int{0, 1, 2}, 3, planFound(slices.Concat(atOnce(2), [][][]int{{{4}, {-4}, {}}}), put(2), put(1), put(0)))
	// One version stands for another one at once.
	versions := dockOf(t, "room 3\npack a 1 1\npack a 2 2\n")
	checkLook(t, versions, []int{0}, []int{1}, 4, planFound(atOnce(1), swap(0, 1)))
	// With less room it goes out first.
	checkLook(t, withRoom(versions, 2), []int{0}, []int{1}, 4, planFound(atOnce(2), take(0), put(1)))
	checkLook(t, withRoom(versions, 2), []int{0}, []int{1}, 1, noneFound(atOnce(2)...))
	checkLook(t, withRoom(versions, 1), []int{0}, []int{1}, 4, noneFound(atOnce(5)...))
}

func TestLooksOfNoStep(t *testing.T) {
	r := dockOf(t, "room 3\npack a 1 2\npack a 2 1\npack b 1 1\ndep a 1 2\npack c 1 2\nban b 1 1\n")
	for bits, set := range allSets(4) {
		healthy := slices.Contains([]int{0, 1, 2, 5, 6, 8, 10}, bits)
		for most := range impl.CodeMaxSteps + 1 {
			// In form, but not healthy: clauses cannot be at once, of no step and of any more.
			want := noneFound(atOnce(most + 1)...)
			if healthy {
				want = planFound(nil)
			}
			checkLook(t, r, set, set, most, want)
			checkRight(t, !healthy, r, set, set, most, noneFound(atOnce(most+1)...))
			checkRight(t, healthy, r, set, set, most, planFound([][][]int{}))
			checkRight(t, healthy, r, slices.Clone(set), append([]int{}, set...), most, impl.Found{Code: impl.BmcPlan, Steps: []impl.Step{}})
			checkRight(t, false, r, set, set, most, planFound(atOnce(1)))
			checkRight(t, false, r, set, set, most, noneFound())
			// Of no step what is there stays.
			for other, to := range allSets(4) {
				if other == bits {
					continue
				}
				checkRight(t, false, r, set, to, most, planFound(nil))
				checkRight(t, most == 0, r, set, to, 0, noneFound(atOnce(most+1)...))
			}
		}
	}
	// A state that is not healthy, at the start, at the end, and at both.
	for most := range impl.CodeMaxSteps + 1 {
		for _, ends := range [][2][]int{{{0, 1}, {0}}, {{0}, {0, 1}}, {{2}, nil}, {nil, {2}}, {{2}, {0, 1}}, {{0, 3}, {3}}, {{0, 1, 2, 3}, {0, 1, 2, 3}}} {
			checkLook(t, r, ends[0], ends[1], most, noneFound(atOnce(most+1)...))
			checkRight(t, false, r, ends[0], ends[1], most, planFound(nil))
			checkRight(t, false, r, ends[0], ends[1], most, planFound(atOnce(1), take(0)))
			checkRight(t, false, r, ends[0], ends[1], most, planFound(atOnce(1), put(1)))
		}
	}
}

func TestLooksOfNoPacks(t *testing.T) {
	for _, r := range []impl.Repo{{}, {Room: impl.RepoMaxSize}, {Packs: []impl.Pack{}, Room: 3}} {
		for most := range impl.CodeMaxSteps + 1 {
			checkLook(t, r, nil, []int{}, most, planFound(nil))
			checkLook(t, r, []int{}, nil, most, planFound(nil))
			checkRight(t, false, r, nil, nil, most, planFound(atOnce(1), impl.Step{}))
			checkRight(t, false, r, nil, nil, most, planFound(atOnce(1), put(0)))
			checkRight(t, false, r, nil, nil, most, noneFound(atOnce(most+1)...))
			checkNoLook(t, r, []int{0}, nil, most)
			checkNoLook(t, r, nil, []int{0}, most)
		}
		checkNoLook(t, r, nil, nil, -1)
		checkNoLook(t, r, nil, nil, impl.CodeMaxSteps+1)
	}
}

func TestLooksOfAllPacksAndSteps(t *testing.T) {
	r := five()
	// Of each number of steps: found by just so many, and not by one less.
	for n, to := range [][]int{nil, {3}, {3, 4}, {0, 3, 4}, {0, 1, 3, 4}, {0, 1, 2, 3, 4}} {
		for most := range impl.CodeMaxSteps + 1 {
			f := impl.BmcFind(r, nil, to, most)
			code, steps, proofs := impl.BmcPlan, n, n
			if n > most {
				code, steps, proofs = impl.BmcNone, 0, most+1
			}
			if f.Code != code || len(f.Steps) != steps || len(f.Proofs) != proofs {
				t.Errorf("to %v by %d steps at most %s", to, most, toldFound(f))
			}
			checkRight(t, true, r, nil, to, most, f)
			for other := -1; other <= impl.CodeMaxSteps+1; other++ {
				// One that was found is right for each greater number, one that was not for none other.
				checkRight(t, other == most || code == impl.BmcPlan && other >= n && other <= impl.CodeMaxSteps, r, nil, to, other, f)
			}
		}
	}
	checkLook(t, r, nil, []int{4}, 4, planFound(atOnce(1), put(4)))
	// As much as can be said, and as many steps as there can be.
	all := impl.Repo{Packs: manyPacks(impl.CodeMaxPacks), Room: 99}
	checkLook(t, all, []int{1}, []int{3}, 4, planFound(atOnce(1), swap(1, 3)))
	checkLook(t, withRoom(all, 3), []int{1}, []int{3}, 4, planFound(atOnce(2), take(1), put(3)))
	for _, room := range []int{0, 1, 2, 5} {
		asked := withRoom(mostAsked(), room)
		if f := impl.BmcFind(asked, []int{1}, []int{3}, 4); f.Code != impl.BmcNone || !impl.BmcOk(asked, []int{1}, []int{3}, 4, f) {
			t.Errorf("room %d: %s", room, toldFound(f))
		}
	}
	// One more is refused, also of no step.
	for _, r := range []impl.Repo{ofNames("a", "b", "c", "d", "e", "f"), {Packs: manyPacks(6), Room: 99}, {Packs: manyPacks(impl.RepoMax), Room: 99}} {
		for most := -1; most <= impl.CodeMaxSteps+1; most++ {
			checkNoLook(t, r, nil, nil, most)
			checkNoLook(t, r, []int{0}, []int{0}, most)
			checkNoLook(t, r, nil, []int{0}, most)
			checkNoLook(t, r, []int{0, 1}, nil, most)
		}
	}
}

func TestLooksOfBadPacks(t *testing.T) {
	for _, r := range badRepos() {
		for most := -1; most <= impl.CodeMaxSteps+1; most++ {
			for _, set := range [][]int{nil, {}, {0}, {1}, {0, 1}, {-1}, {9}} {
				checkNoLook(t, r, set, nil, most)
				checkNoLook(t, r, nil, set, most)
				checkNoLook(t, r, set, set, most)
			}
		}
	}
}

func TestLooksOfStatesNotInForm(t *testing.T) {
	for i, c := range codeCharts() {
		if i%3 > 0 {
			continue
		}
		most := i % (impl.CodeMaxSteps + 1)
		for _, set := range wrongSets(len(c.r.Packs)) {
			checkNoLook(t, c.r, set, nil, most)
			checkNoLook(t, c.r, nil, set, most)
			checkNoLook(t, c.r, set, set, most)
			checkNoLook(t, c.r, set, setOf(len(c.r.Packs)), most)
		}
	}
}

func TestLooksOfTooManySteps(t *testing.T) {
	r := dockOf(t, "room 2\npack a 1 1\npack b 1 1\n")
	for _, most := range []int{math.MinInt, -1 << 32, -2, -1, impl.CodeMaxSteps + 1, impl.CodeMaxSteps + 2, impl.PlanMax, 1 << 32, 1<<32 + 1, math.MaxInt - 1, math.MaxInt} {
		for _, ends := range [][2][]int{{nil, nil}, {nil, {0}}, {{0}, {0}}, {{0, 1}, nil}, {{7}, nil}} {
			checkNoLook(t, r, ends[0], ends[1], most)
			checkNoLook(t, impl.Repo{}, ends[0], ends[1], most)
		}
		// Also what is right for as many as there may be.
		checkRight(t, false, r, nil, []int{0}, most, impl.BmcFind(r, nil, []int{0}, impl.CodeMaxSteps))
	}
}

func TestWhatIsToldOfPlans(t *testing.T) {
	r := dockOf(t, "room 10\npack app 1 3\ndep lib 1 1\npack app 2 4\ndep lib 2 9\npre lib 2 2\npack lib 1 2\npack lib 2 2\nban app 1 1\n")
	from, to := []int{0, 2}, []int{1, 3}
	far := slices.Concat(atOnce(2), [][][]int{{{5}, {-5}, {}}})
	plan := []impl.Step{take(0), swap(2, 3), put(1)}
	check := func(right bool, most int, proofs [][][]int, steps ...impl.Step) {
		t.Helper()
		checkRight(t, right, r, from, to, most, planFound(proofs, steps...))
	}
	for most := -1; most <= impl.CodeMaxSteps+1; most++ {
		check(most == 3 || most == 4, most, far, plan...)
	}
	// No plan, others, and such as lead elsewhere.
	for _, steps := range [][]impl.Step{nil, {}, {{}}, plan[:2], plan[1:], {take(0), put(1), swap(2, 3)}, {take(0), swap(2, 3), put(0)}, {take(0), swap(2, 3), take(3)}, {swap(0, 1), swap(2, 3), take(0)}, {take(0), swap(3, 2), put(1)}, {take(0), {Kind: impl.StepSwap, In: 3, Out: 0}, put(1)}, slices.Repeat(plan, 2), make([]impl.Step, 100000)} {
		for n := range 5 {
			check(false, 4, resized(far, n), steps...)
		}
	}
	// Others of as many steps, or more, that lead there: lib may go by two steps, but then there is a shorter plan.
	check(false, 4, resized(far, 4), take(0), take(2), put(3), put(1))
	check(false, 4, far, take(0), take(2), put(3), put(1))
	if !impl.PlanOk(r, from, to, []impl.Step{take(0), take(2), put(3), put(1)}) {
		t.Error("the longer one is no plan")
	}
	// Other answers.
	for _, code := range []int{math.MinInt, -1, 0, impl.BmcNone, impl.BmcLong, 4, 5, 8, impl.BmcBad, 10, 1 << 32, 1<<32 + 1, math.MaxInt} {
		checkRight(t, false, r, from, to, 4, impl.Found{Code: code, Steps: plan, Proofs: far})
		checkRight(t, false, r, from, to, 3, impl.Found{Code: code, Steps: plan, Proofs: far})
		checkRight(t, false, r, from, to, 3, impl.Found{Code: code})
		checkRight(t, code == impl.BmcNone, r, from, to, 2, impl.Found{Code: code, Proofs: far})
		checkRight(t, false, r, from, from, 0, impl.Found{Code: code})
	}
}

func TestWhatIsToldOfRefutations(t *testing.T) {
	r := dockOf(t, "room 10\npack app 1 3\ndep lib 1 1\npack app 2 4\ndep lib 2 9\npre lib 2 2\npack lib 1 2\npack lib 2 2\nban app 1 1\n")
	from, to := []int{0, 2}, []int{1, 3}
	plan := []impl.Step{take(0), swap(2, 3), put(1)}
	last := [][]int{{5}, {-5}, {}}
	// With each a plan is told, and that there is none of two steps.
	check := func(right bool, proofs ...[][]int) {
		t.Helper()
		for most := range impl.CodeMaxSteps + 1 {
			checkRight(t, right && most > 2, r, from, to, most, planFound(proofs, plan...))
			checkRight(t, false, r, from, to, most, impl.Found{Code: impl.BmcNone, Steps: plan[:2], Proofs: proofs})
		}
		checkRight(t, right, r, from, to, 2, noneFound(proofs...))
	}
	no := [][]int{{}}
	check(true, no, no, last)
	// Too few, too many, in another order, of another number of steps.
	check(false)
	check(false, no)
	check(false, no, last)
	check(false, no, no, last, no)
	check(false, no, no, last, last)
	check(false, last, no, no)
	check(false, no, last, no)
	check(false, no, no, no)
	// Cut, empty, turned, and with what is no literal.
	check(false, no, no, last[:2])
	check(false, no, no, last[:1])
	check(false, no, no, nil)
	check(false, no, nil, last)
	check(false, nil, no, last)
	check(false, nil, nil, nil)
	check(false, no, no, [][]int{{}, {-5}, {5}})
	check(false, no, no, [][]int{{5}, {}, {-5}})
	check(false, no, no, [][]int{{0}, {5}, {-5}, {}})
	check(false, no, no, [][]int{{37}, {5}, {-5}, {}})
	check(false, no, no, [][]int{{-37}, {5}, {-5}, {}})
	// Of two steps there are 36 variables, of one 20, of none 4; from what cannot be at once each literal of these follows.
	check(true, no, no, [][]int{{36, 5}, {5}, {-5}, {}})
	check(true, no, [][]int{{20}, {}}, last)
	check(false, no, [][]int{{21}, {}}, last)
	check(true, [][]int{{4}, {}}, no, last)
	check(false, [][]int{{5}, {}}, no, last)
	// With a clause more, where it follows; and one behind the empty one, if that is empty, too.
	check(true, no, no, [][]int{{5}, {-5}, {}, {}})
	check(true, [][]int{{}, {}}, [][]int{{1}, {}}, [][]int{{-5}, {}})
	check(true, no, no, [][]int{{-5}, {5}, {}})
	check(true, no, no, [][]int{{1}, {-2}, {5}, {-5}, {}})
	check(false, no, no, [][]int{{-1}, {5}, {-5}, {}})
	check(false, no, no, [][]int{{5}, {-5}, {}, {5}})
	check(false, no, [][]int{{}, {1}}, last)
	// As long as there may be, and one more.
	check(true, no, no, slices.Concat(last, many(2*impl.SatMax-2)))
	check(false, no, no, slices.Concat(last, many(2*impl.SatMax-1)))
	check(true, many(2*impl.SatMax+1), no, last)
	check(false, many(2*impl.SatMax+2), no, last)
}

func TestWhatIsToldOfNone(t *testing.T) {
	r := dockOf(t, "room 1\npack a 1 2\npack b 1 1\n")
	for most := range impl.CodeMaxSteps + 1 {
		checkLook(t, r, nil, []int{0}, most, noneFound(atOnce(most+1)...))
		checkRight(t, false, r, nil, []int{0}, most, noneFound(atOnce(most)...))
		checkRight(t, false, r, nil, []int{0}, most, noneFound(atOnce(most+2)...))
		for _, steps := range [][]impl.Step{{put(0)}, {{}}, {put(1)}, toAndFro(1, 4), make([]impl.Step, 1000)} {
			checkRight(t, false, r, nil, []int{0}, most, impl.Found{Code: impl.BmcNone, Steps: steps, Proofs: atOnce(most + 1)})
			checkRight(t, false, r, nil, []int{0}, most, planFound(atOnce(len(steps)), steps...))
		}
		// An empty list of steps is none.
		checkRight(t, true, r, nil, []int{0}, most, impl.Found{Code: impl.BmcNone, Steps: []impl.Step{}, Proofs: atOnce(most + 1)})
		// Where there is a plan no number of steps that leads there is refuted.
		checkRight(t, most == 0, r, nil, []int{1}, most, noneFound(atOnce(most+1)...))
		checkLook(t, r, nil, []int{1}, 1, planFound(atOnce(1), put(1)))
	}
	checkRight(t, false, r, nil, []int{0}, 0, noneFound(make([][][]int, 100000)...))
	checkRight(t, false, r, nil, []int{1}, 4, planFound(make([][][]int, 100000), put(1)))
	// States that are not in form have no clauses to be refuted.
	for _, set := range wrongSets(2) {
		for most := range impl.CodeMaxSteps + 1 {
			checkRight(t, false, r, set, nil, most, noneFound(atOnce(most+1)...))
			checkRight(t, false, r, nil, set, most, noneFound(atOnce(most+1)...))
			checkRight(t, false, r, set, set, most, planFound(nil))
		}
	}
}

func TestNoLookTakesTooLong(t *testing.T) {
	// Both ways of each choice tell a clause, and one is empty. By any names of five packs that ask for nothing, between any states, all plans of four steps are gone through with 765 choices at most; what is asked for only leaves less.
	longest := 0
	for _, l := range slices.Concat(lookings(), farLookings(), []looking{look(chartOf(five()), 0, 31, 4)}) {
		if l.f.Code == impl.BmcLong {
			t.Fatal(l)
		}
		for _, proof := range l.f.Proofs {
			longest = max(longest, len(proof))
		}
	}
	if longest < 100 || longest > 2*765+1 {
		t.Errorf("%d clauses", longest)
	}
}

func TestLooksWriteNothing(t *testing.T) {
	for i, l := range slices.Concat(lookings(), farLookings()) {
		if i%8 > 0 {
			continue
		}
		r, whole := roomy(l.c.r)
		before := whole()
		from, to := append(setOf(l.from), 0, 1, -5), append(setOf(l.to), 0, 1, -5)
		keptFrom, keptTo := slices.Clone(from), slices.Clone(to)
		f := impl.BmcFind(r, from[:len(from)-3], to[:len(to)-3], l.most)
		if !sameFound(f, l.f) {
			t.Fatalf("%v: spare room matters", l)
		}
		told, all := roomyFound(l.f)
		kept := all()
		if !impl.BmcOk(r, from[:len(from)-3], to[:len(to)-3], l.most, told) {
			t.Fatalf("%v: spare room matters", l)
		}
		impl.BmcFind(r, from, to, l.most)
		impl.BmcOk(r, from, to, l.most, told)
		told.Code = impl.BmcLong
		impl.BmcOk(r, from, to, l.most, told)
		if !slices.Equal(from, keptFrom) || !slices.Equal(to, keptTo) || whole() != before || all() != kept {
			t.Fatalf("%v: an argument was changed", l)
		}
	}
	for _, bad := range append(badRepos(), ofNames("a", "b", "c", "d", "e", "f")) {
		r, whole := roomy(bad)
		before := whole()
		impl.BmcFind(r, nil, []int{0}, 1)
		impl.BmcOk(r, nil, []int{0}, 1, planFound(atOnce(1), put(0)))
		if whole() != before {
			t.Fatalf("%v was changed", bad)
		}
	}
}

// roomyFound is the same with spare room behind each list, and what tells all of it, the spare room too.
func roomyFound(f impl.Found) (impl.Found, func() string) {
	again := impl.Found{Code: f.Code, Steps: append(slices.Clone(f.Steps), put(0), impl.Step{Kind: -5})[:len(f.Steps)]}
	var all []func() string
	for _, proof := range f.Proofs {
		roomy, whole := roomyProof(proof)
		again.Proofs = append(again.Proofs, roomy)
		all = append(all, whole)
	}
	again.Proofs = append(again.Proofs, [][]int{{79}})[:len(f.Proofs)]
	return again, func() string {
		text := fmt.Sprint(again.Steps[:len(f.Steps)+2], again.Proofs[:len(f.Proofs)+1])
		for _, whole := range all {
			text += whole()
		}
		return text
	}
}

func TestLooksAreNewMemory(t *testing.T) {
	for i, l := range slices.Concat(lookings(), farLookings()) {
		if i%8 > 0 {
			continue
		}
		from, to := append(setOf(l.from), -5)[:len(setOf(l.from))], append(setOf(l.to), -5)[:len(setOf(l.to))]
		r, whole := roomy(l.c.r)
		before := whole()
		f := impl.BmcFind(r, from, to, l.most)
		for i := range f.Steps[:cap(f.Steps)] {
			f.Steps[:cap(f.Steps)][i] = impl.Step{Kind: -7}
		}
		// Each clause is spoilt, and all that come behind it are as they were.
		for n, proof := range f.Proofs {
			for place := range proof {
				spoilt(proof[place])
				if !sameSets(proof[place+1:], l.f.Proofs[n][place+1:]) {
					t.Fatalf("%v: clauses share memory", l)
				}
			}
			for place := range proof[:cap(proof)] {
				proof[:cap(proof)][place] = []int{-7}
			}
			if !slices.EqualFunc(f.Proofs[n+1:], l.f.Proofs[n+1:], sameSets) {
				t.Fatalf("%v: refutations share memory", l)
			}
		}
		for n := range f.Proofs[:cap(f.Proofs)] {
			f.Proofs[:cap(f.Proofs)][n] = [][]int{{-7}}
		}
		if again := impl.BmcFind(r, from, to, l.most); !sameFound(again, l.f) || whole() != before {
			t.Fatalf("%v: two answers share memory, or one with packs", l)
		}
		if from[:len(from)+1][len(from)] != -5 || to[:len(to)+1][len(to)] != -5 || !slices.Equal(from, setOf(l.from)) || !slices.Equal(to, setOf(l.to)) {
			t.Fatalf("%v: a state was changed", l)
		}
	}
}

func TestLooksKeepNothing(t *testing.T) {
	list := lookings()[:500]
	for range 2 {
		for i, l := range list {
			other := list[(i*7+3)%len(list)]
			impl.BmcFind(other.c.r, setOf(other.from), setOf(other.to), other.most)
			impl.BmcOk(other.c.r, setOf(other.from), setOf(other.to), other.most, other.f)
			impl.BmcFind(l.c.r, nil, nil, -1)
			if again := look(l.c, l.from, l.to, l.most); !sameFound(again.f, l.f) {
				t.Fatalf("%v: now %v", l, again)
			}
		}
	}
	// What the caller changes behind a call counts in the next one.
	r := dockOf(t, "room 1\npack a 1 1\n")
	checkLook(t, r, nil, []int{0}, 2, planFound(atOnce(1), put(0)))
	r.Packs[0].Size = 2
	checkLook(t, r, nil, []int{0}, 2, noneFound(atOnce(3)...))
	r.Packs[0].Name = "B"
	checkNoLook(t, r, nil, []int{0}, 2)
}

func TestLooksSideBySide(t *testing.T) {
	// All packs and states are the same memory, of all looks at one time.
	list := some(lookings(), 300)
	var all sync.WaitGroup
	others := make([]string, 6)
	for i := range others {
		all.Go(func() {
			for _, l := range list {
				if f := look(l.c, l.from, l.to, l.most).f; !sameFound(f, l.f) || !impl.BmcOk(l.c.r, setOf(l.from), setOf(l.to), l.most, f) {
					others[i] = toldFound(f)
				}
			}
		})
	}
	all.Wait()
	if told := slices.DeleteFunc(others, func(text string) bool { return text == "" }); len(told) > 0 {
		t.Errorf("otherwise side by side: %v", told)
	}
}

func TestNothingRunsBehindALook(t *testing.T) {
	// What is found at once, or not asked for any more, leaves the most behind, if anything does.
	r := withRoom(mostAsked(), 2)
	wrong := noneFound(resized([][][]int{nil}, impl.CodeMaxSteps+1)...)
	before, left := runtime.NumGoroutine(), 0
	count := func() {
		left += max(0, runtime.NumGoroutine()-before)
	}
	for range 60 {
		impl.BmcFind(r, nil, nil, impl.CodeMaxSteps)
		count()
		impl.BmcOk(r, nil, []int{0}, impl.CodeMaxSteps, wrong)
		count()
	}
	// What has told its end may be counted for a moment still.
	if left > 30 {
		t.Errorf("%d run behind 120 looks", left)
	}
}
