package tests

import (
	"math"
	"slices"
	"testing"

	"loop.example/drydock/impl"
)

func put(in int) impl.Step {
	return impl.Step{Kind: impl.StepPut, In: in}
}

func take(out int) impl.Step {
	return impl.Step{Kind: impl.StepTake, Out: out}
}

func swap(out, in int) impl.Step {
	return impl.Step{Kind: impl.StepSwap, In: in, Out: out}
}

// ofNames is packs of Size 0 that ask for nothing, one of each name.
func ofNames(names ...string) impl.Repo {
	r := impl.Repo{}
	for _, name := range names {
		r.Packs = append(r.Packs, impl.Pack{Name: name})
	}
	return r
}

// brings says whether something comes in by a step.
func brings(s impl.Step) bool {
	return s.Kind != impl.StepTake
}

// eachAllowed goes over all steps that StepDo allows from healthy states, with what is there behind them.
func eachAllowed(t *testing.T, do func(r impl.Repo, set []int, s impl.Step, behind []int)) {
	t.Helper()
	seen := map[int]int{}
	for _, r := range docks() {
		for _, set := range impl.StateList(r) {
			for _, s := range impl.StepAll(r) {
				if behind, ok := impl.StepDo(r, set, s); ok {
					seen[s.Kind]++
					do(r, set, s, behind)
				}
			}
		}
	}
	for _, kind := range []int{impl.StepPut, impl.StepTake, impl.StepSwap} {
		if seen[kind] < 100 {
			t.Errorf("only %d steps of kind %d were allowed", seen[kind], kind)
		}
	}
}

// checkFrom asks StepFrom, and StepDo of each step, for just these.
func checkFrom(t *testing.T, r impl.Repo, set []int, want ...impl.Step) {
	t.Helper()
	if got := impl.StepFrom(r, set); !slices.Equal(got, want) {
		t.Errorf("%v: from %v lead %v, not %v", r, set, got, want)
	}
	for _, s := range everyStep(r) {
		behind, ok := impl.StepDo(r, set, s)
		if ok != slices.Contains(want, s) {
			t.Errorf("%v: from %v %v is allowed: %v", r, set, s, ok)
		}
		if ok && !slices.Equal(behind, behindOf(set, s)) || !ok && len(behind) > 0 {
			t.Errorf("%v: from %v %v leads to %v", r, set, s, behind)
		}
	}
}

// checkRefused asks StepDo for nothing and false.
func checkRefused(t *testing.T, r impl.Repo, set []int, s impl.Step) {
	t.Helper()
	if behind, ok := impl.StepDo(r, set, s); ok || len(behind) > 0 {
		t.Errorf("%v: from %.40v %v leads to %v, %v", r, set, s, behind, ok)
	}
}

func TestPromise15EachStepOnce(t *testing.T) {
	for _, r := range append(docks(), okRepos()...) {
		all := impl.StepAll(r)
		want := everyStep(r)
		if !slices.Equal(all, want) {
			t.Fatalf("%v: %v, not %v", r, all, want)
		}
		pairs := 0
		for i, p := range r.Packs {
			for _, q := range r.Packs[:i] {
				if p.Name == q.Name {
					pairs++
				}
			}
		}
		if len(all) != 2*len(r.Packs)+2*pairs {
			t.Fatalf("%v: %d steps", r, len(all))
		}
		for i, s := range all {
			if slices.Contains(all[:i], s) {
				t.Fatalf("%v: %v is told twice", r, s)
			}
		}
	}
}

func TestOrderOfStepAll(t *testing.T) {
	three := ofNames("a", "a", "a", "b")
	three.Packs[0].Ver, three.Packs[1].Ver, three.Packs[2].Ver = 0, 2, 99
	for _, c := range []struct {
		r    impl.Repo
		want []impl.Step
	}{
		{impl.Repo{}, nil},
		{impl.Repo{Room: 999}, nil},
		{ofNames("a"), []impl.Step{put(0), take(0)}},
		{ofNames("a", "b"), []impl.Step{put(0), put(1), take(0), take(1)}},
		{ofNames("a", "aa"), []impl.Step{put(0), put(1), take(0), take(1)}},
		{three, []impl.Step{put(0), put(1), put(2), put(3), take(0), take(1), take(2), take(3), swap(0, 1), swap(0, 2), swap(1, 0), swap(1, 2), swap(2, 0), swap(2, 1)}},
	} {
		if got := impl.StepAll(c.r); !slices.Equal(got, c.want) {
			t.Errorf("%v: %v", c.r, got)
		}
	}
	if got := impl.StepAll(impl.Repo{Packs: manyPacks(impl.RepoMax)}); len(got) != 8+8+8*7 || got[16] != swap(0, 1) || got[71] != swap(7, 6) {
		t.Errorf("eight of one name: %v", got)
	}
	if got := impl.StepAll(ofNames("a", "b", "c", "d", "e", "f", "g", "h")); len(got) != 16 || got[7] != put(7) || got[15] != take(7) {
		t.Errorf("eight of eight names: %v", got)
	}
}

func TestPromise16FromHealthyToHealthy(t *testing.T) {
	eachAllowed(t, func(r impl.Repo, set []int, s impl.Step, behind []int) {
		if !impl.StateOk(r, set) || !impl.StateOk(r, behind) || unserved(r, behind) != "" {
			t.Fatalf("%v: %v leads from %v to %v", r, s, set, behind)
		}
		for i := range r.Packs {
			was, is := slices.Contains(set, i), slices.Contains(behind, i)
			comes := s.Kind != impl.StepTake && s.In == i
			goes := s.Kind != impl.StepPut && s.Out == i
			if comes && (was || !is) || goes && (!was || is) || !comes && !goes && was != is {
				t.Fatalf("%v: %v leads from %v to %v", r, s, set, behind)
			}
		}
	})
}

func TestPromise17AllowedInOrder(t *testing.T) {
	why := map[string]int{}
	for _, r := range docks() {
		for _, set := range allSets(len(r.Packs)) {
			var want []impl.Step
			for _, s := range everyStep(r) {
				fault := refusal(r, set, s)
				why[fault]++
				if fault == "" {
					want = append(want, s)
				}
			}
			if got := impl.StepFrom(r, set); !slices.Equal(got, want) {
				t.Fatalf("%v: from %v lead %v, not %v", r, set, got, want)
			}
		}
	}
	for _, fault := range []string{"", "state", "out", "in", "pre", "room", "then"} {
		if why[fault] < 100 {
			t.Errorf("only %d steps with fault %q", why[fault], fault)
		}
	}
}

func TestPromise18PutAndTaken(t *testing.T) {
	eachAllowed(t, func(r impl.Repo, set []int, s impl.Step, behind []int) {
		if s.Kind != impl.StepPut {
			return
		}
		if back, ok := impl.StepDo(r, behind, take(s.In)); !ok || !slices.Equal(back, set) {
			t.Fatalf("%v: %v, put %d, taken: %v, %v", r, set, s.In, back, ok)
		}
	})
}

func TestPromise19RoomBesideAll(t *testing.T) {
	eachAllowed(t, func(r impl.Repo, set []int, s impl.Step, behind []int) {
		if !brings(s) {
			return
		}
		need := roomOf(r, set) + r.Packs[s.In].Size
		if need > r.Room || impl.StateSize(r, set)+impl.StateSize(r, []int{s.In}) > r.Room {
			t.Fatalf("%v: %v from %v needs %d", r, s, set, need)
		}
		if got, ok := impl.StepDo(withRoom(r, need), set, s); !ok || !slices.Equal(got, behind) {
			t.Fatalf("%v: %v from %v is not allowed with room %d", r, s, set, need)
		}
		if need > 0 {
			checkRefused(t, withRoom(r, need-1), set, s)
		}
	})
}

func TestRoomDuringASwap(t *testing.T) {
	sizes := "pack a 1 3\npack a 2 4\npack b 1 2\n"
	checkFrom(t, dockOf(t, "room 9\n"+sizes), []int{0, 2}, take(0), take(2), swap(0, 1))
	checkFrom(t, dockOf(t, "room 8\n"+sizes), []int{0, 2}, take(0), take(2))
	checkFrom(t, dockOf(t, "room 8\n"+sizes), []int{1, 2}, take(1), take(2))
	checkFrom(t, dockOf(t, "room 9\n"+sizes), []int{1, 2}, take(1), take(2), swap(1, 0))
	checkFrom(t, dockOf(t, "room 7\n"+sizes), []int{0}, put(2), take(0), swap(0, 1))
	checkFrom(t, dockOf(t, "room 6\n"+sizes), []int{0}, put(2), take(0))
	checkFrom(t, dockOf(t, "room 5\n"+sizes), []int{0}, put(2), take(0))
	checkFrom(t, dockOf(t, "room 4\n"+sizes), []int{0}, take(0))
	checkFrom(t, dockOf(t, "room 4\n"+sizes), nil, put(0), put(1), put(2))
	checkFrom(t, dockOf(t, "room 3\n"+sizes), nil, put(0), put(2))
	most := "pack a 1 499\npack a 2 500\npack b 1 999\n"
	checkFrom(t, dockOf(t, "room 999\n"+most), []int{0}, take(0), swap(0, 1))
	checkFrom(t, dockOf(t, "room 998\n"+most), []int{0}, take(0))
	checkFrom(t, dockOf(t, "room 999\n"+most), nil, put(0), put(1), put(2))
}

func TestRoomOfNothing(t *testing.T) {
	sizes := "room 0\npack a 1 0\npack a 2 0\npack b 1 0\npack c 1 1\n"
	r := dockOf(t, sizes)
	checkFrom(t, r, nil, put(0), put(1), put(2))
	checkFrom(t, r, []int{0}, put(2), take(0), swap(0, 1))
	checkFrom(t, r, []int{1, 2}, take(1), take(2), swap(1, 0))
	checkFrom(t, withRoom(r, 1), []int{1, 2}, put(3), take(1), take(2), swap(1, 0))
	checkFrom(t, withRoom(r, 1), []int{1, 2, 3}, take(1), take(2), take(3), swap(1, 0))
}

func TestPromise20WhatMustBeAhead(t *testing.T) {
	asked := map[int]int{}
	eachAllowed(t, func(r impl.Repo, set []int, s impl.Step, _ []int) {
		if !brings(s) {
			return
		}
		for _, q := range r.Packs[s.In].Pres {
			asked[s.Kind]++
			hits := impl.RepoHits(r, q)
			if !slices.ContainsFunc(keptBy(set, s), func(i int) bool { return slices.Contains(hits, i) }) {
				t.Fatalf("%v: %v from %v lacks %v", r, s, set, q)
			}
		}
	})
	if asked[impl.StepPut] < 100 || asked[impl.StepSwap] < 100 {
		t.Errorf("few were asked: %v", asked)
	}
}

func TestAheadOfOne(t *testing.T) {
	// a 2 asks for what is ahead; a 1, b 1 and c 1 may be there, also together.
	for _, c := range []struct {
		pres             string
		none, b, c, both bool // a 2 may be put beside nothing, b 1, c 1, or both
		a, ab, ac, abc   bool // a 1 may be swapped for it
	}{
		{"", true, true, true, true, true, true, true, true},
		{"pre a 1 1\n", false, false, false, false, false, false, false, false},
		{"pre a 2 2\n", false, false, false, false, false, false, false, false},
		{"pre a 0 99\n", false, false, false, false, false, false, false, false},
		{"pre e 0 99\n", false, false, false, false, false, false, false, false},
		{"pre b 1 1\n", false, true, false, true, false, true, false, true},
		{"pre b 0 99\n", false, true, false, true, false, true, false, true},
		{"pre b 2 99\n", false, false, false, false, false, false, false, false},
		{"pre b 0 0\n", false, false, false, false, false, false, false, false},
		{"pre b 1 1 c 1 1\n", false, false, false, true, false, false, false, true},
		{"pre c 1 1 b 1 1\n", false, false, false, true, false, false, false, true},
		{"pre b 0 99 b 1 1 b 0 1 b 1 2\n", false, true, false, true, false, true, false, true},
		{"pre b 1 1 a 1 1\n", false, false, false, false, false, false, false, false},
		{"pre a 2 2 b 1 1\n", false, false, false, false, false, false, false, false},
		{"pre b 1 1 c 1 1 b 0 9 e 0 9\n", false, false, false, false, false, false, false, false},
	} {
		r := dockOf(t, "room 0\npack a 1 0\npack a 2 0\n"+c.pres+"pack b 1 0\npack c 1 0\n")
		for _, at := range []struct {
			set  []int
			s    impl.Step
			want bool
		}{
			{nil, put(1), c.none}, {[]int{2}, put(1), c.b}, {[]int{3}, put(1), c.c}, {[]int{2, 3}, put(1), c.both},
			{[]int{0}, swap(0, 1), c.a}, {[]int{0, 2}, swap(0, 1), c.ab}, {[]int{0, 3}, swap(0, 1), c.ac}, {[]int{0, 2, 3}, swap(0, 1), c.abc},
		} {
			behind, ok := impl.StepDo(r, at.set, at.s)
			if ok != at.want || ok && !slices.Equal(behind, behindOf(at.set, at.s)) || !ok && len(behind) > 0 {
				t.Errorf("%q: %v from %v leads to %v, %v", c.pres, at.s, at.set, behind, ok)
			}
		}
		// What was needed ahead may go once it has served, and asks nothing of swaps the other way.
		checkFrom(t, r, []int{1, 2}, put(3), take(1), take(2), swap(1, 0))
	}
	pre := dockOf(t, "room 0\npack a 1 0\ndep b 1 1\npack b 1 0\npre a 1 1\n")
	checkFrom(t, pre, nil)
	checkFrom(t, pre, []int{0, 1}, take(0))
	checkFrom(t, pre, []int{1}, put(0), take(1))
}

func TestHealthBehindAStep(t *testing.T) {
	r := dockOf(t, "room 0\npack a 1 0\ndep b 1 1 c 1 1\npack b 1 0\npack b 2 0\npack c 1 0\nban b 2 2\npack d 1 0\nban c 1 1\n")
	checkFrom(t, r, nil, put(1), put(2), put(3), put(4))
	checkFrom(t, r, []int{1}, put(0), put(3), put(4), take(1), swap(1, 2))
	checkFrom(t, r, []int{2}, put(4), take(2), swap(2, 1))
	checkFrom(t, r, []int{0, 1}, put(3), put(4), take(0))
	checkFrom(t, r, []int{0, 1, 3}, take(0), take(1), take(3))
	checkFrom(t, r, []int{0, 3}, put(1), take(0))
	checkFrom(t, r, []int{1, 3}, put(0), take(1), take(3))
	checkFrom(t, r, []int{3}, put(0), put(1), take(3))
	checkFrom(t, r, []int{4}, put(1), put(2), take(4))
	checkFrom(t, r, []int{0, 1, 4}, take(0), take(4))
	both := dockOf(t, "room 0\npack a 1 0\ndep b 1 1\npack b 1 0\ndep a 1 1\n")
	checkFrom(t, both, nil)
	checkFrom(t, both, []int{0, 1})
	// A row that only what goes out fits, and one that what comes in fits in its place.
	row := dockOf(t, "room 0\npack a 1 0\npack a 2 0\npack a 3 0\npack b 1 0\ndep a 1 2\n")
	checkFrom(t, row, []int{0, 3}, take(3), swap(0, 1))
	checkFrom(t, row, []int{1, 3}, take(3), swap(1, 0))
}

func TestPromise21MoreRoom(t *testing.T) {
	eachAllowed(t, func(r impl.Repo, set []int, s impl.Step, behind []int) {
		for _, room := range []int{r.Room + 1, r.Room + 7, impl.RepoMaxSize} {
			if room > impl.RepoMaxSize {
				continue
			}
			if got, ok := impl.StepDo(withRoom(r, room), set, s); !ok || !slices.Equal(got, behind) {
				t.Fatalf("%v: %v from %v leads to %v, %v with room %d", r, s, set, got, ok, room)
			}
		}
	})
}

func TestPromise22AllowedJustIfTold(t *testing.T) {
	for _, r := range docks() {
		for _, set := range allSets(len(r.Packs)) {
			list := impl.StepFrom(r, set)
			for _, s := range everyStep(r) {
				behind, ok := impl.StepDo(r, set, s)
				if ok != slices.Contains(list, s) || ok != (refusal(r, set, s) == "") {
					t.Fatalf("%v: %v from %v is allowed: %v; told: %v", r, s, set, ok, list)
				}
				if ok && !slices.Equal(behind, behindOf(set, s)) || !ok && len(behind) > 0 {
					t.Fatalf("%v: %v from %v leads to %v", r, s, set, behind)
				}
			}
		}
	}
}

func TestPromise23DifferentStates(t *testing.T) {
	for _, r := range docks() {
		for _, set := range impl.StateList(r) {
			seen := [][]int{set}
			for _, s := range impl.StepFrom(r, set) {
				behind, _ := impl.StepDo(r, set, s)
				if slices.ContainsFunc(seen, func(other []int) bool { return slices.Equal(other, behind) }) {
					t.Fatalf("%v: %v from %v leads to %v once more", r, s, set, behind)
				}
				seen = append(seen, behind)
			}
		}
	}
}

func TestPromise24HowManyAreThere(t *testing.T) {
	eachAllowed(t, func(r impl.Repo, set []int, s impl.Step, behind []int) {
		more := len(behind) - len(set)
		switch s.Kind {
		case impl.StepPut:
			if more != 1 {
				t.Fatalf("%v: %v from %v leads to %v", r, s, set, behind)
			}
		case impl.StepTake:
			if more != -1 {
				t.Fatalf("%v: %v from %v leads to %v", r, s, set, behind)
			}
		default:
			if more != 0 || s.In == s.Out || r.Packs[s.In].Name != r.Packs[s.Out].Name {
				t.Fatalf("%v: %v from %v leads to %v", r, s, set, behind)
			}
		}
	})
}

func TestPromise25NotAtOnceAgain(t *testing.T) {
	eachAllowed(t, func(r impl.Repo, _ []int, s impl.Step, behind []int) {
		checkRefused(t, r, behind, s)
		if slices.Contains(impl.StepFrom(r, behind), s) {
			t.Fatalf("%v: %v is told again behind it", r, s)
		}
	})
}

func TestFullDocks(t *testing.T) {
	one := impl.Repo{Packs: manyPacks(impl.RepoMax), Room: 13}
	var puts, swaps []impl.Step
	for i := range 8 {
		puts = append(puts, put(i))
		if i < 7 {
			swaps = append(swaps, swap(7, i))
		}
	}
	checkFrom(t, one, nil, puts...)
	checkFrom(t, one, []int{7}, append([]impl.Step{take(7)}, swaps...)...)
	checkFrom(t, withRoom(one, 12), []int{7}, append([]impl.Step{take(7)}, swaps[:6]...)...)
	checkFrom(t, one, []int{0}, take(0), swap(0, 1), swap(0, 2), swap(0, 3), swap(0, 4), swap(0, 5), swap(0, 6), swap(0, 7))
	eight := ofNames("a", "b", "c", "d", "e", "f", "g", "h")
	checkFrom(t, eight, nil, puts...)
	checkFrom(t, eight, []int{0, 1, 2, 3, 4, 5, 6, 7}, take(0), take(1), take(2), take(3), take(4), take(5), take(6), take(7))
	checkFrom(t, eight, []int{1, 3, 4, 6, 7}, put(0), put(2), put(5), take(1), take(3), take(4), take(6), take(7))
	checkFrom(t, impl.Repo{}, nil)
	checkFrom(t, impl.Repo{Room: impl.RepoMaxSize}, []int{})
}

func TestWrongSteps(t *testing.T) {
	far := []int{math.MinInt, -9, -2, -1, 4, 5, 8, 63, 64, 65, math.MaxInt}
	for _, text := range []string{
		"room 0\n",
		"room 9\npack a 1 1\n",
		"room 9\npack a 1 1\npack a 2 1\npack b 1 2\npack b 2 0\n",
		"room 3\npack a 1 1\npack a 2 1\npack b 1 2\ndep a 1 1\npack b 2 0\npre a 2 2\n",
	} {
		r := dockOf(t, text)
		places := append([]int{0, 1, 2, 3}, far...)
		for _, set := range allSets(len(r.Packs)) {
			for _, kind := range []int{math.MinInt, -1, 0, 1, 2, 3, 4, 5, math.MaxInt} {
				for _, in := range places {
					for _, out := range places {
						s := impl.Step{Kind: kind, In: in, Out: out}
						if refusal(r, set, s) != "" {
							checkRefused(t, r, set, s)
						} else if behind, ok := impl.StepDo(r, set, s); !ok || !slices.Equal(behind, behindOf(set, s)) {
							t.Errorf("%v: %v from %v leads to %v, %v", r, s, set, behind, ok)
						}
					}
				}
			}
		}
	}
	r := dockOf(t, "room 9\npack a 1 0\npack a 2 0\npack b 1 0\n")
	for _, c := range []struct {
		set []int
		s   impl.Step
	}{
		{nil, impl.Step{}}, {nil, impl.Step{Kind: 4}}, {[]int{0}, impl.Step{Kind: -1}},
		{nil, put(-1)}, {nil, put(3)}, {[]int{0}, take(-1)}, {[]int{0}, take(3)},
		{[]int{0}, swap(0, 3)}, {[]int{0}, swap(0, -1)}, {[]int{0}, swap(3, 1)}, {[]int{0}, swap(-1, 1)},
		{nil, impl.Step{Kind: impl.StepPut, In: 1, Out: 1}}, {[]int{2}, impl.Step{Kind: impl.StepPut, In: 1, Out: 2}},
		{[]int{0}, impl.Step{Kind: impl.StepTake, In: 1}}, {[]int{2}, impl.Step{Kind: impl.StepTake, In: 2, Out: 2}},
		{[]int{0}, swap(0, 0)}, {nil, swap(0, 0)}, {[]int{0}, swap(0, 2)}, {[]int{2}, swap(2, 1)},
		{nil, take(0)}, {[]int{1}, take(0)}, {nil, swap(0, 1)}, {[]int{1}, swap(0, 1)}, {[]int{2}, swap(1, 0)},
		{[]int{0}, put(0)}, {[]int{2}, put(2)}, {[]int{0, 2}, put(2)},
	} {
		checkRefused(t, r, c.set, c.s)
	}
}

func TestStepsOfWrongStates(t *testing.T) {
	asked := 0
	for _, r := range docks() {
		for _, set := range allSets(len(r.Packs)) {
			if unserved(r, set) == "" {
				continue
			}
			asked++
			if list := impl.StepFrom(r, set); len(list) > 0 {
				t.Fatalf("%v: from %v lead %v", r, set, list)
			}
			for _, s := range everyStep(r) {
				checkRefused(t, r, set, s)
			}
		}
		free := nothingAsked(withRoom(r, impl.RepoMaxSize))
		for _, set := range wrongSets(len(r.Packs)) {
			if list := impl.StepFrom(free, set); len(list) > 0 {
				t.Fatalf("%v: from %.40v lead %v", free, set, list)
			}
			for _, s := range everyStep(free)[:min(3, len(r.Packs))] {
				checkRefused(t, free, set, s)
			}
		}
	}
	if asked < 1000 {
		t.Errorf("only %d states that are not healthy", asked)
	}
	// Also where what is there behind the step would be healthy.
	r := dockOf(t, "room 2\npack a 1 2\npack b 1 1\ndep c 1 1\npack c 1 0\n")
	checkRefused(t, r, []int{0, 1, 2}, take(0))
	checkRefused(t, r, []int{1}, put(2))
	checkRefused(t, r, []int{1}, take(1))
	checkRefused(t, dockOf(t, "room 0\npack a 1 0\npack a 2 0\n"), []int{0, 1}, take(0))
}

func TestStepsOfBadPacks(t *testing.T) {
	for _, r := range badRepos() {
		if list := impl.StepAll(r); len(list) > 0 {
			t.Errorf("%v has steps %v", r, list)
		}
		for _, set := range [][]int{nil, {}, {0}, {1}, {0, 1}, {-1}, {9}} {
			if list := impl.StepFrom(r, set); len(list) > 0 {
				t.Errorf("%v: from %v lead %v", r, set, list)
			}
			for _, s := range []impl.Step{{}, put(0), put(1), take(0), take(1), swap(0, 1), swap(1, 0)} {
				checkRefused(t, r, set, s)
			}
		}
	}
}

func TestStepsAreNewMemory(t *testing.T) {
	spoil := func(list []impl.Step) {
		for i := range list[:cap(list)] {
			list[:cap(list)][i] = impl.Step{Kind: -7}
		}
	}
	for _, r := range docks() {
		all := impl.StepAll(r)
		spoil(impl.StepAll(r))
		if !slices.Equal(impl.StepAll(r), all) {
			t.Fatalf("%v: two answers share memory", r)
		}
		for _, set := range impl.StateList(r) {
			full := append(slices.Clone(set), -5, -5)
			given, kept := full[:len(set)], slices.Clone(full)
			list := impl.StepFrom(r, given)
			spoil(impl.StepFrom(r, given))
			if !slices.Equal(impl.StepFrom(r, given), list) {
				t.Fatalf("%v: two answers share memory", r)
			}
			for _, s := range list {
				first, _ := impl.StepDo(r, given, s)
				second, _ := impl.StepDo(r, given, s)
				for i := range first[:cap(first)] {
					first[:cap(first)][i] = -7
				}
				if !slices.Equal(second, behindOf(set, s)) || !slices.Equal(full, kept) {
					t.Fatalf("%v: what comes of %v from %v shares memory", r, s, set)
				}
			}
		}
	}
}

func TestStepsWriteNothing(t *testing.T) {
	for _, r := range append(docks(), badRepos()...) {
		c, whole := roomy(r)
		before := whole()
		if !slices.Equal(impl.StepAll(c), impl.StepAll(r)) {
			t.Fatalf("%v: spare room matters", r)
		}
		sets := append(wrongSets(len(r.Packs))[:9], impl.StateList(r)...)
		for _, set := range sets {
			full := append(slices.Clone(set), 0, 1, -5)
			given, kept := full[:len(set)], slices.Clone(full)
			if !slices.Equal(impl.StepFrom(c, given), impl.StepFrom(r, set)) {
				t.Fatalf("%v: spare room matters to %v", r, set)
			}
			for _, s := range impl.StepAll(r) {
				got, ok := impl.StepDo(c, given, s)
				want, allowed := impl.StepDo(r, set, s)
				if ok != allowed || !slices.Equal(got, want) {
					t.Fatalf("%v: spare room matters to %v from %v", r, s, set)
				}
			}
			if !slices.Equal(full, kept) {
				t.Fatalf("%v: %v was changed", r, set)
			}
		}
		if whole() != before {
			t.Fatalf("%v was changed", r)
		}
	}
}
