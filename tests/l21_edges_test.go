package tests

import (
	"fmt"
	"math"
	"slices"
	"strconv"
	"strings"
	"testing"

	"loop.example/drydock/impl"
)

// clausesOf is clauses written by hand: a comma, or a new line, behind each but the last.
func clausesOf(t *testing.T, text string) [][]int {
	t.Helper()
	var list [][]int
	for _, part := range strings.FieldsFunc(text, func(r rune) bool { return r == ',' || r == '\n' }) {
		var clause []int
		for _, word := range strings.Fields(part) {
			lit, err := strconv.Atoi(word)
			if err != nil {
				t.Fatal(err)
			}
			clause = append(clause, lit)
		}
		if len(clause) > 0 {
			list = append(list, clause)
		}
	}
	return list
}

// checkCode asks CodeOf for just these clauses, in order.
func checkCode(t *testing.T, r impl.Repo, from, to []int, n, vars int, clauses ...[]int) {
	t.Helper()
	got, ok := impl.CodeOf(r, from, to, n)
	if !ok || got.Vars != vars {
		t.Errorf("%v: from %v to %v by %d steps %d variables, %v", r, from, to, n, got.Vars, ok)
	}
	for i := range max(len(clauses), len(got.Clauses)) {
		if i >= len(clauses) || i >= len(got.Clauses) || !slices.Equal(clauses[i], got.Clauses[i]) {
			t.Errorf("%v: from %v to %v by %d steps at %d otherwise: %v, not %v", r, from, to, n, i, got.Clauses[min(i, len(got.Clauses)):], clauses[min(i, len(clauses)):])
			break
		}
	}
}

// checkNoCode asks CodeOf for nothing and false.
func checkNoCode(t *testing.T, r impl.Repo, from, to []int, n int) {
	t.Helper()
	if got, ok := impl.CodeOf(r, from, to, n); ok || got.Vars != 0 || len(got.Clauses) > 0 {
		t.Errorf("%v: from %v to %v by %d steps %v, %v; not refused", r, brief(from), brief(to), n, got, ok)
	}
}

// checkNoPlan asks CodePlan for nothing and false.
func checkNoPlan(t *testing.T, r impl.Repo, n int, model []bool) {
	t.Helper()
	if got, ok := impl.CodePlan(r, n, model); ok || len(got) > 0 {
		t.Errorf("%v: of %d steps %v, %v; not refused", r, n, got, ok)
	}
}

// checkNoModel asks CodeModel for nothing and false.
func checkNoModel(t *testing.T, r impl.Repo, from []int, steps ...impl.Step) {
	t.Helper()
	if got, ok := impl.CodeModel(r, from, steps); ok || len(got) > 0 {
		t.Errorf("%v: from %v by %v %v, %v; not refused", r, brief(from), brief(steps), got, ok)
	}
}

// checkCodeModel asks CodeModel for a model in which just these variables are so, and that it is one of plans, and told as just these steps.
func checkCodeModel(t *testing.T, r impl.Repo, from, to []int, steps []impl.Step, vars int, so ...int) {
	t.Helper()
	want := make([]bool, vars)
	for _, v := range so {
		want[v-1] = true
	}
	model, ok := impl.CodeModel(r, from, steps)
	if !ok || !slices.Equal(model, want) {
		t.Errorf("%v: from %v by %v %v, %v; not %v", r, from, steps, toldModel(model), ok, toldModel(want))
	}
	if c, ok := impl.CodeOf(r, from, to, len(steps)); !ok || !impl.CnfTrue(c, want) {
		t.Errorf("%v: from %v to %v by %v: no model", r, from, to, steps)
	}
	if back, ok := impl.CodePlan(r, len(steps), want); !ok || !slices.Equal(back, steps) {
		t.Errorf("%v: %v read back %v", r, steps, back)
	}
}

func TestCodeOfPacksOfAllKindsByHand(t *testing.T) {
	// One row is fitted by another one and by itself, what is asked for ahead by itself, a ban by itself; a 1 and a 2 are versions of one name.
	r := dockOf(t, "room 4\npack a 1 2\ndep b 1 1 a 1 1\npack a 2 3\npre b 0 9 a 1 2\npack b 1 1\nban a 2 2 b 1 1\n")
	checkCode(t, r, []int{0}, []int{0, 2}, 1, 14, clausesOf(t, `
		1, -2, -3
		4, -5, 6
		-1 1 3, -1 -2, -3 -2, -1 -2
		-4 4 6, -4 -5, -6 -5, -4 -5
		-7 -8
		-7 -9, -8 -9
		-7 -10, -8 -10, -9 -10
		-7 -11, -8 -11, -9 -11, -10 -11
		-7 -12, -8 -12, -9 -12, -10 -12, -11 -12
		-7 -13, -8 -13, -9 -13, -10 -13, -11 -13, -12 -13
		-7 -14, -8 -14, -9 -14, -10 -14, -11 -14, -12 -14, -13 -14
		7 8 9 10 11 12 13 14
		1 -4 7 14, -1 4 10 13
		2 -5 8 13, -2 5 11 14
		3 -6 9, -3 6 12
		-7 -1, -7 4, -7 -2, -7 -1 -3
		-8 -2, -8 5, -8 3, -8 1 2, -8 -1, -8 -2
		-9 -3, -9 6, -9 -1 -2, -9 -2 -3
		-10 1, -10 -4
		-11 2, -11 -5
		-12 3, -12 -6
		-13 -2, -13 5, -13 3, -13 2, -13 -1, -13 -2, -13 1, -13 -4
		-14 -1, -14 4, -14 -2, -14 -1 -3, -14 2, -14 -5
	`)...)
	checkCode(t, r, []int{0}, nil, 0, 3, clausesOf(t, "1, -2, -3, -1, -2, -3, -1 1 3, -1 -2, -3 -2, -1 -2")...)
	checkCodeModel(t, r, []int{0}, []int{0, 2}, []impl.Step{put(2)}, 14, 1, 4, 6, 9)
	checkCodeModel(t, r, []int{0, 2}, []int{2}, []impl.Step{take(0)}, 14, 1, 3, 6, 10)
	checkCodeModel(t, r, []int{0}, []int{0}, nil, 3, 1)
}

func TestCodeOfSeveralStepsByHand(t *testing.T) {
	r := dockOf(t, "room 1\npack a 1 1\n")
	checkCode(t, r, nil, nil, 0, 1, clausesOf(t, "-1, -1")...)
	checkCode(t, r, []int{0}, nil, 0, 1, clausesOf(t, "1, -1")...)
	checkCode(t, r, nil, []int{0}, 2, 7, clausesOf(t, `
		-1, 3
		-4 -5, 4 5, 1 -2 4, -1 2 5, -4 -1, -4 2, -4 -1, -5 1, -5 -2
		-6 -7, 6 7, 2 -3 6, -2 3 7, -6 -2, -6 3, -6 -2, -7 2, -7 -3
	`)...)
	checkCodeModel(t, r, nil, nil, []impl.Step{put(0), take(0)}, 7, 2, 4, 7)
	checkCodeModel(t, r, []int{0}, []int{0}, []impl.Step{take(0), put(0)}, 7, 1, 3, 5, 6)
	// The same with more room, once and twice its Size; and of Size 0.
	checkCode(t, withRoom(r, 2), nil, []int{0}, 1, 4, clausesOf(t, "-1, 2, -3 -4, 3 4, 1 -2 3, -1 2 4, -3 -1, -3 2, -4 1, -4 -2")...)
	none := dockOf(t, "room 0\npack a 1 0\n")
	checkCode(t, none, nil, []int{0}, 1, 4, clausesOf(t, "-1, 2, -3 -4, 3 4, 1 -2 3, -1 2 4, -3 -1, -3 2, -4 1, -4 -2")...)
	// Of two packs all that is said of the second step is of what is there behind the first one.
	two := dockOf(t, "room 2\npack a 1 1\npre b 1 1\npack b 1 1\ndep a 1 1 b 2 2\n")
	checkCode(t, two, []int{0, 1}, []int{0}, 2, 14, clausesOf(t, `
		1, 2, 5, -6
		-2 1, -4 3, -6 5
		-7 -8, -7 -9, -8 -9, -7 -10, -8 -10, -9 -10, 7 8 9 10
		1 -3 7, -1 3 9, 2 -4 8, -2 4 10
		-7 -1, -7 3, -7 2, -7 -1 -2
		-8 -2, -8 4, -8 -1 -2
		-9 1, -9 -3
		-10 2, -10 -4
		-11 -12, -11 -13, -12 -13, -11 -14, -12 -14, -13 -14, 11 12 13 14
		3 -5 11, -3 5 13, 4 -6 12, -4 6 14
		-11 -3, -11 5, -11 4, -11 -3 -4
		-12 -4, -12 6, -12 -3 -4
		-13 3, -13 -5
		-14 4, -14 -6
	`)...)
}

func TestCodeOfThreeVersionsByHand(t *testing.T) {
	r := dockOf(t, "room 9\npack a 1 0\npack a 2 0\npack a 3 0\npre a 1 3\n")
	clauses := clausesOf(t, `
		1, -2, -3, -4, -5, 6
		-1 -2, -1 -3, -2 -3
		-4 -5, -4 -6, -5 -6
	`)
	var all []int
	for v := 7; v <= 18; v++ {
		for _, earlier := range all {
			clauses = append(clauses, []int{-earlier, -v})
		}
		all = append(all, v)
	}
	clauses = append(clauses, all)
	// 7 to 9 put, 10 to 12 take; then, what goes out first, 0 1, 0 2, 1 0, 1 2, 2 0, 2 1.
	checkCode(t, r, []int{0}, []int{2}, 1, 18, append(clauses, clausesOf(t, `
		1 -4 7 15 17, -1 4 10 13 14
		2 -5 8 13 18, -2 5 11 15 16
		3 -6 9 14 16, -3 6 12 17 18
		-7 -1, -7 4
		-8 -2, -8 5
		-9 -3, -9 6, -9 1 2 3
		-10 1, -10 -4
		-11 2, -11 -5
		-12 3, -12 -6
		-13 -2, -13 5, -13 1, -13 -4
		-14 -3, -14 6, -14 2 3, -14 1, -14 -4
		-15 -1, -15 4, -15 2, -15 -5
		-16 -3, -16 6, -16 1 3, -16 2, -16 -5
		-17 -1, -17 4, -17 3, -17 -6
		-18 -2, -18 5, -18 3, -18 -6
	`)...)...)
	if c, _ := impl.CodeOf(r, []int{0}, []int{2}, 1); find(c, impl.SatMax).code != impl.SatNo {
		t.Error("a 3 came without an a that stays")
	}
}

func TestCodeOfNoPacks(t *testing.T) {
	for _, r := range []impl.Repo{{}, {Room: impl.RepoMaxSize}, {Packs: []impl.Pack{}, Room: 3}} {
		for n := range impl.CodeMaxSteps + 1 {
			// Of each step one is to be the one, and there is none.
			checkCode(t, r, nil, []int{}, n, 0, many(n)...)
			c, _ := impl.CodeOf(r, []int{}, nil, n)
			if n == 0 {
				checkYes(t, c, 0)
			} else {
				checkNo(t, c, 0, nil)
				checkNoPlan(t, r, n, nil)
				checkNoPlan(t, r, n, []bool{})
			}
			checkNoPlan(t, r, n, []bool{true})
			checkNoCode(t, r, []int{0}, nil, n)
			checkNoCode(t, r, nil, []int{0}, n)
		}
		checkCodeModel(t, r, nil, nil, nil, 0)
		checkCodeModel(t, r, []int{}, nil, []impl.Step{}, 0)
		checkNoModel(t, r, nil, impl.Step{})
		checkNoModel(t, r, nil, put(0))
		checkNoModel(t, r, []int{0})
	}
}

// five is packs of five names that need nothing.
func five() impl.Repo {
	return ofNames("a", "b", "c", "d", "e")
}

// mostAsked is CodeMaxPacks versions of one name of which as much is said as can be: each asks for four rows, four packs ahead, and bans all others; any two of them have room, no three, and beside a new one no other two.
func mostAsked() impl.Repo {
	r := impl.Repo{Packs: manyPacks(impl.CodeMaxPacks), Room: 2}
	all := req("a", 0, impl.RepoMaxVer)
	for i := range r.Packs {
		r.Packs[i].Size = 1
		r.Packs[i].Bans = []impl.Req{all, all, all, all}
		r.Packs[i].Pres = []impl.Req{all, all, all, all}
		for range impl.RepoMaxReqs {
			r.Packs[i].Deps = append(r.Packs[i].Deps, []impl.Req{all, all, all, all})
		}
	}
	return r
}

func TestCodesOfAllPacksThatThereMayBe(t *testing.T) {
	r := five()
	for n := range impl.CodeMaxSteps + 1 {
		c, ok := impl.CodeOf(r, []int{0, 4}, []int{0, 1, 2, 3, 4}, n)
		if !ok || c.Vars != 5*(n+1)+10*n || !sameCnf(c, codeByWords(r, []int{0, 4}, []int{0, 1, 2, 3, 4}, n)) {
			t.Errorf("%d steps: %v, %v", n, c, ok)
		}
		if f := find(c, impl.SatMax); (f.code == impl.SatYes) != (n == 3) {
			t.Errorf("%d steps: %v", n, f)
		}
	}
	checkCodeModel(t, r, nil, []int{0, 1, 3, 4}, []impl.Step{put(4), put(0), put(3), put(1)}, 65,
		10, 11, 15, 16, 19, 20, 21, 22, 24, 25, 30, 36, 49, 57)
	// One more is refused, also of no step, and whatever is there.
	six := ofNames("a", "b", "c", "d", "e", "f")
	for n := range impl.CodeMaxSteps + 1 {
		for _, r := range []impl.Repo{six, {Packs: manyPacks(6), Room: 99}, {Packs: manyPacks(impl.RepoMax), Room: 99}} {
			checkNoCode(t, r, nil, nil, n)
			checkNoCode(t, r, []int{0}, []int{0}, n)
			all := len(everyStep(r))
			model := make([]bool, (n+1)*len(r.Packs)+n*all)
			for ahead := range n {
				model[(n+1)*len(r.Packs)+ahead*all] = true
			}
			checkNoPlan(t, r, n, model)
			checkNoModel(t, r, nil, toAndFro(0, n)...)
		}
	}
}

func TestCodesOfAsMuchAsCanBeSaid(t *testing.T) {
	r := mostAsked()
	greatest := 0
	for _, room := range []int{0, 1, 2, 3, 4, 5} {
		r := withRoom(r, room)
		for n := range impl.CodeMaxSteps + 1 {
			c, ok := impl.CodeOf(r, []int{1}, []int{3}, n)
			if !ok || c.Vars != 5*(n+1)+30*n || !impl.CnfOk(c) || !sameCnf(c, codeByWords(r, []int{1}, []int{3}, n)) {
				t.Fatalf("%d steps: %d variables, %d clauses, %v", n, c.Vars, len(c.Clauses), ok)
			}
			greatest = max(greatest, len(c.Clauses))
			for _, clause := range c.Clauses {
				if len(clause) > 30 {
					t.Fatalf("%d steps: %v", n, clause)
				}
			}
			f := find(c, impl.SatMax)
			if f.code == impl.SatYes || f.code == impl.SatNo && !impl.SatProof(c, f.proof) {
				t.Fatalf("room %d, %d steps: %v", room, n, f)
			}
		}
	}
	// Of no state more than 10 twins, 20 rows, 20 bans and 10 sets; of no step than 435 twos, one of all, 10 changes, of 25 that come in 2, 4 and 10, of 25 that go out 2. So no clauses of plans come near their limits.
	bound := 10 + 5*60 + 4*(435+1+10+25*16+25*2)
	if bound > impl.CnfMaxClauses || 5*5+4*30 > impl.CnfMaxVars || greatest > bound || greatest < bound-100 {
		t.Errorf("%d clauses, at most %d", greatest, bound)
	}
	// Of as many variables as there can be plans are found, too.
	free := impl.Repo{Packs: manyPacks(impl.CodeMaxPacks), Room: 99}
	c, _ := impl.CodeOf(free, []int{1}, []int{3}, 4)
	f := find(c, impl.SatMax)
	steps, ok := impl.CodePlan(free, 4, f.model)
	if f.code != impl.SatYes || !ok || !impl.PlanOk(free, []int{1}, []int{3}, steps) {
		t.Errorf("%v, %v", f, steps)
	}
	checkCodeModel(t, free, []int{1}, []int{3}, []impl.Step{swap(1, 0), swap(0, 4), take(4), put(3)}, 145,
		2, 6, 15, 24, 25+10+4+1, 55+10+3+1, 85+5+4+1, 115+3+1)
}

func TestCodesOfNoStepAndOfAll(t *testing.T) {
	if impl.CodeMaxSteps != 4 || impl.CodeMaxPacks != 5 {
		t.Error("limits")
	}
	r := ofNames("a", "b")
	for n := -3; n < 12; n++ {
		is := n >= 0 && n <= impl.CodeMaxSteps
		model := make([]bool, max(0, 2*(n+1)+4*n))
		for ahead := range max(n, 0) {
			model[2*(n+1)+4*ahead] = true
		}
		if !is {
			checkNoCode(t, r, nil, nil, n)
			checkNoCode(t, r, nil, []int{0, 1}, n)
			checkNoPlan(t, r, n, model)
			checkNoPlan(t, r, n, nil)
			checkNoPlan(t, r, n, make([]bool, 2))
			if n > 0 {
				checkNoModel(t, r, nil, toAndFro(0, n)...)
			}
			continue
		}
		if c, ok := impl.CodeOf(r, nil, nil, n); !ok || c.Vars != len(model) || (find(c, impl.SatMax).code == impl.SatYes) != (n%2 == 0) {
			t.Errorf("%d steps: %v, %v", n, c, ok)
		}
		want := []impl.Step{}
		for range n {
			want = append(want, put(0))
		}
		if steps, ok := impl.CodePlan(r, n, model); !ok || !slices.Equal(steps, want) {
			t.Errorf("%d steps: %v, %v", n, steps, ok)
		}
		if m, ok := impl.CodeModel(r, nil, toAndFro(0, n)); !ok || len(m) != len(model) {
			t.Errorf("%d steps: %v, %v", n, m, ok)
		}
	}
	for _, n := range []int{math.MinInt, -1 << 32, 1 << 32, 1<<32 + 1, math.MaxInt, math.MaxInt - 1, impl.PlanMax} {
		checkNoCode(t, r, nil, nil, n)
		checkNoCode(t, impl.Repo{}, nil, nil, n)
		checkNoPlan(t, r, n, nil)
		checkNoPlan(t, impl.Repo{}, n, nil)
		checkNoPlan(t, r, n, make([]bool, 14))
	}
	for _, n := range []int{5, impl.PlanMax, impl.PlanMax + 1, 100000} {
		checkNoModel(t, r, nil, toAndFro(0, n)...)
		checkNoModel(t, r, nil, make([]impl.Step, n)...)
	}
}

func TestCodesOfBothStatesTheSame(t *testing.T) {
	r := dockOf(t, "room 3\npack a 1 2\npack a 2 1\npack b 1 1\ndep a 1 2\npack c 1 2\nban b 1 1\n")
	for bits, set := range allSets(4) {
		healthy := slices.Contains([]int{0, 1, 2, 5, 6, 8, 10}, bits)
		for other, to := range allSets(4) {
			c, ok := impl.CodeOf(r, set, to, 0)
			if f := find(c, impl.SatMax); !ok || (f.code == impl.SatYes) != (bits == other && healthy) {
				t.Errorf("from %v to %v: %v", set, to, f)
			}
		}
		if healthy {
			checkCodeModel(t, r, set, set, nil, 4, plusOne(set)...)
			continue
		}
		// Of a state that is in form, but not healthy, there are clauses, but no model, of any number of steps; nor is one told.
		for n := range impl.CodeMaxSteps + 1 {
			for _, ends := range [][2][]int{{set, set}, {set, nil}, {nil, set}, {set, {0}}} {
				c, ok := impl.CodeOf(r, ends[0], ends[1], n)
				if f := find(c, impl.SatMax); !ok || f.code != impl.SatNo {
					t.Errorf("%v by %d steps: %v", ends, n, f)
				}
			}
		}
		checkNoModel(t, r, set)
		checkNoModel(t, r, set, take(0))
		checkNoModel(t, r, set, take(3))
	}
}

// plusOne is each number of a list, one more.
func plusOne(list []int) []int {
	var more []int
	for _, n := range list {
		more = append(more, n+1)
	}
	return more
}

// part is the clauses that have a literal.
func part(c impl.Cnf, lit int) [][]int {
	var list [][]int
	for _, clause := range c.Clauses {
		if slices.Contains(clause, lit) {
			list = append(list, clause)
		}
	}
	return list
}

func TestCodesOfRoom(t *testing.T) {
	// Of three packs of 1, 2 and 3, by how much room there is: with one pack less each set has it.
	sizes := "pack a 1 1\npack b 1 2\npack c 1 3\n"
	for room, text := range []string{"-1, -2, -3", "-2, -3", "-1 -2, -3", "-1 -3, -2 -3", "-2 -3", "-1 -2 -3", "", ""} {
		r := dockOf(t, fmt.Sprintf("room %d\n", room)+sizes)
		checkCode(t, r, nil, nil, 0, 3, append(clausesOf(t, "-1, -2, -3, -1, -2, -3"), clausesOf(t, text)...)...)
	}
	// In what order: by bits.
	four := dockOf(t, "room 3\npack a 1 2\npack b 1 1\npack c 1 2\npack d 1 1\n")
	checkCode(t, four, nil, nil, 0, 4, clausesOf(t, "-1, -2, -3, -4, -1, -2, -3, -4, -1 -3, -1 -2 -4, -2 -3 -4")...)
	mixed := dockOf(t, "room 3\npack a 1 1\npack b 1 1\npack c 1 1\npack d 1 1\npack e 1 3\n")
	checkCode(t, mixed, nil, nil, 0, 5, clausesOf(t, "-1, -2, -3, -4, -5, -1, -2, -3, -4, -5, -1 -2 -3 -4, -1 -5, -2 -5, -3 -5, -4 -5")...)
	// What needs no room is in none of these.
	empty := dockOf(t, "room 1\npack a 1 0\npack b 1 1\npack c 1 0\npack d 1 1\n")
	checkCode(t, empty, nil, nil, 0, 4, clausesOf(t, "-1, -2, -3, -4, -1, -2, -3, -4, -2 -4")...)
	checkCode(t, withRoom(empty, 0), nil, nil, 0, 4, clausesOf(t, "-1, -2, -3, -4, -1, -2, -3, -4, -2, -4")...)
}

func TestCodesOfRoomWithWhatComesIn(t *testing.T) {
	sizes := "pack a 1 2\npack b 1 1\npack c 1 4\n"
	// Steps: 7 to 9 put, 10 to 12 take.
	for _, c := range []struct {
		room int
		lit  int
		text string
	}{
		// All is full: none may be there.
		{2, -7, "-7 -1, -7 4, -7 -1, -7 -2, -7 -3"},
		// The pack alone is above Room: the empty set, and so no other.
		{1, -7, "-7 -1, -7 4, -7"},
		{0, -7, "-7 -1, -7 4, -7"},
		{0, -8, "-8 -2, -8 5, -8"},
		{1, -8, "-8 -2, -8 5, -8 -1, -8 -2, -8 -3"},
		{2, -8, "-8 -2, -8 5, -8 -1, -8 -3"},
		{3, -8, "-8 -2, -8 5, -8 -1 -2, -8 -3"},
		{4, -8, "-8 -2, -8 5, -8 -3"},
		{5, -8, "-8 -2, -8 5, -8 -1 -3, -8 -2 -3"},
		{6, -8, "-8 -2, -8 5, -8 -1 -3"},
		{7, -8, "-8 -2, -8 5, -8 -1 -2 -3"},
		{8, -8, "-8 -2, -8 5"},
		{3, -9, "-9 -3, -9 6, -9"},
		{4, -9, "-9 -3, -9 6, -9 -1, -9 -2, -9 -3"},
		{5, -9, "-9 -3, -9 6, -9 -1, -9 -3"},
		{6, -9, "-9 -3, -9 6, -9 -1 -2, -9 -3"},
		{7, -9, "-9 -3, -9 6, -9 -3"},
		{8, -9, "-9 -3, -9 6, -9 -1 -3, -9 -2 -3"},
		{11, -9, "-9 -3, -9 6"},
	} {
		r := dockOf(t, fmt.Sprintf("room %d\n", c.room)+sizes)
		code, _ := impl.CodeOf(r, nil, nil, 1)
		// Ahead of what is asked of a step stand the five clauses that no other is the one.
		if got := part(code, c.lit)[5:]; !sameSets(got, clausesOf(t, c.text)) {
			t.Errorf("room %d: %v, not %v", c.room, got, c.text)
		}
	}
	// What goes out needs its room still when what comes in comes.
	r := dockOf(t, "room 4\npack a 1 2\npack a 2 2\npack b 1 1\n")
	swaps, _ := impl.CodeOf(r, []int{0}, []int{1}, 1)
	if got := part(swaps, -13)[7:]; !sameSets(got, clausesOf(t, "-13 -2, -13 5, -13 -1 -2, -13 -1 -3, -13 -2 -3, -13 1, -13 -4")) {
		t.Errorf("swap: %v", got)
	}
	checkCodeModel(t, r, []int{0}, []int{1}, []impl.Step{swap(0, 1)}, 14, 1, 5, 13)
	checkNoModel(t, withRoom(r, 3), []int{0}, swap(0, 1))
	checkNoModel(t, r, []int{0, 2}, swap(0, 1))
}

func TestCodesOfWhatFits(t *testing.T) {
	// Several fit one request, two requests are fitted by one, the requests stand in another order, and none fits: it is not there.
	r := dockOf(t, "room 9\npack a 1 0\ndep b 2 9 b 1 2\ndep c 1 9\ndep x 0 99\ndep a 1 1 b 3 3\npack b 1 0\npack b 2 0\npack b 3 0\n")
	checkCode(t, r, nil, nil, 0, 4, clausesOf(t, "-1, -2, -3, -4, -1, -2, -3, -4, -1 2 3 4, -1, -1, -1 1 4, -2 -3, -2 -4, -3 -4")...)
	// Bans: each that fits once, whichever ban it fits, but itself; another version is a twin, too.
	b := dockOf(t, "room 9\npack a 1 0\nban b 2 3 b 1 2 a 0 9\npack b 1 0\nban x 1 1\npack b 2 0\nban b 2 2\npack b 3 0\nban b 0 9 a 1 1\n")
	checkCode(t, b, nil, nil, 0, 4, clausesOf(t, "-1, -2, -3, -4, -1, -2, -3, -4, -1 -2, -1 -3, -1 -4, -2 -3, -2 -4, -3 -4, -4 -1, -4 -2, -4 -3")...)
	// What must be there ahead: a clause of each request, also of the same one; only what goes out is not in it.
	p := dockOf(t, "room 9\npack a 1 0\npack a 2 0\npre a 1 1 a 0 9 x 1 1 b 1 1\npack b 1 0\n")
	c, ok := impl.CodeOf(p, nil, nil, 1)
	if !ok || !sameSets(part(c, -8)[7:], clausesOf(t, "-8 -2, -8 5, -8 1, -8 1 2, -8, -8 3")) || !sameSets(part(c, -13)[7:], clausesOf(t, "-13 -2, -13 5, -13, -13 2, -13, -13 3, -13 1, -13 -4")) {
		t.Errorf("ahead: %v, %v", part(c, -8), part(c, -13))
	}
	if got := part(c, -14)[7:]; !sameSets(got, clausesOf(t, "-14 -1, -14 4, -14 2, -14 -5")) {
		t.Errorf("what asks for nothing: %v", got)
	}
	// What is fitted only by what goes out never comes in for it, but beside another one that fits.
	only := dockOf(t, "room 9\npack a 1 1\npack a 2 1\npre a 1 1\n")
	for n := range impl.CodeMaxSteps + 1 {
		if k := codingOf(chartOf(only), 1, 2, n); k.f.code != impl.SatNo {
			t.Error(k)
		}
	}
	checkNoModel(t, only, []int{0}, swap(0, 1))
	checkNoModel(t, only, nil, put(1))
	checkCodeModel(t, only, []int{1}, []int{0}, []impl.Step{swap(1, 0)}, 10, 2, 3, 10)
	either := dockOf(t, "room 9\npack a 1 1\npack a 2 1\npre a 1 1 b 1 1\npack b 1 1\n")
	checkNoModel(t, either, []int{0, 2}, swap(0, 1))
	other := dockOf(t, "room 9\npack a 1 1\npack a 2 1\npre b 1 1\npack b 1 1\n")
	checkCodeModel(t, other, []int{0, 2}, []int{1, 2}, []impl.Step{swap(0, 1)}, 14, 1, 3, 5, 6, 13)
	checkNoModel(t, other, []int{0}, swap(0, 1))
	// A pack that is asked for by itself alone is healthy, but never comes in.
	self := dockOf(t, "room 9\npack a 1 1\ndep a 1 1\npre a 1 1\nban a 1 1\n")
	checkCode(t, self, nil, []int{0}, 1, 4, clausesOf(t, "-1, 2, -1 1, -2 2, -3 -4, 3 4, 1 -2 3, -1 2 4, -3 -1, -3 2, -3 1, -4 1, -4 -2")...)
	checkNoModel(t, self, nil, put(0))
	checkCodeModel(t, self, []int{0}, nil, []impl.Step{take(0)}, 4, 1, 4)
}

func TestCodesOfBadPacks(t *testing.T) {
	for _, r := range badRepos() {
		for _, set := range [][]int{nil, {}, {0}, {1}, {0, 1}, {-1}, {9}} {
			for n := -1; n <= impl.CodeMaxSteps+1; n++ {
				checkNoCode(t, r, set, nil, n)
				checkNoCode(t, r, nil, set, n)
				checkNoCode(t, r, set, set, n)
			}
			for _, steps := range [][]impl.Step{nil, {}, {put(0)}, {take(0)}, {swap(0, 1)}, {{}}, toAndFro(0, 4), toAndFro(0, 5)} {
				checkNoModel(t, r, set, steps...)
			}
		}
		for n := -1; n <= impl.CodeMaxSteps+1; n++ {
			for vars := range 40 {
				checkNoPlan(t, r, n, make([]bool, vars))
			}
		}
		p := len(r.Packs)
		checkNoPlan(t, r, 0, make([]bool, p))
		model := make([]bool, 2*p+len(everyStep(r)))
		if p > 0 {
			model[2*p] = true
		}
		checkNoPlan(t, r, 1, model)
	}
}

func TestCodesOfStatesNotInForm(t *testing.T) {
	for i, c := range codeCharts() {
		n := i % (impl.CodeMaxSteps + 1)
		for _, set := range wrongSets(len(c.r.Packs)) {
			checkNoCode(t, c.r, set, nil, n)
			checkNoCode(t, c.r, nil, set, n)
			checkNoCode(t, c.r, set, set, 0)
			checkNoModel(t, c.r, set)
			for _, s := range c.steps {
				checkNoModel(t, c.r, set, s)
			}
		}
		for _, set := range allSets(len(c.r.Packs)) {
			if _, ok := impl.CodeOf(c.r, set, set, 0); !ok {
				t.Fatalf("%v: no clauses of %v", c.r, set)
			}
			if _, ok := impl.CodeModel(c.r, set, nil); ok != (unserved(c.r, set) == "") {
				t.Fatalf("%v: a model of %v: %v", c.r, set, ok)
			}
		}
	}
}

func TestCodePlansOfWrongModels(t *testing.T) {
	r := dockOf(t, "room 3\npack a 1 2\npack a 2 1\npre b 0 9\npack b 1 1\nban a 1 1\n")
	// Two steps: 9 for what is there, 10 to 17 and 18 to 25 for them.
	model := make([]bool, 25)
	checkNoPlan(t, r, 2, model)
	model[9] = true
	checkNoPlan(t, r, 2, model)
	model[24] = true
	if steps, ok := impl.CodePlan(r, 2, model); !ok || !slices.Equal(steps, []impl.Step{put(0), swap(1, 0)}) {
		t.Errorf("%v, %v", steps, ok)
	}
	checkNoPlan(t, r, 2, model[:24])
	checkNoPlan(t, r, 2, append(slices.Clone(model), false))
	checkNoPlan(t, r, 2, append(slices.Clone(model), true))
	checkNoPlan(t, r, 2, slices.Insert(slices.Clone(model), 0, false))
	checkNoPlan(t, r, 2, nil)
	checkNoPlan(t, r, 2, make([]bool, 100000))
	checkNoPlan(t, r, 1, model)
	checkNoPlan(t, r, 3, model)
	checkNoPlan(t, r, 0, model)
	for i := 9; i < 25; i++ {
		twice := slices.Clone(model)
		twice[i] = true
		if i != 9 && i != 24 {
			checkNoPlan(t, r, 2, twice)
		}
	}
	model[24] = false
	checkNoPlan(t, r, 2, model)
	model[17] = true
	if steps, ok := impl.CodePlan(r, 2, model); !ok || !slices.Equal(steps, []impl.Step{put(0), put(0)}) {
		t.Errorf("%v, %v", steps, ok)
	}
	model[9], model[16] = false, true
	if steps, ok := impl.CodePlan(r, 2, model); !ok || !slices.Equal(steps, []impl.Step{swap(1, 0), put(0)}) {
		t.Errorf("%v, %v", steps, ok)
	}
	model[17], model[15] = false, true
	// Two at the first place, none at the second one.
	checkNoPlan(t, r, 2, model)
	// Of no step any model of as many variables as packs will do.
	for _, none := range allModels(3) {
		if steps, ok := impl.CodePlan(r, 0, none); !ok || len(steps) > 0 {
			t.Errorf("%v, %v", steps, ok)
		}
	}
	checkNoPlan(t, r, 0, make([]bool, 2))
	checkNoPlan(t, r, 0, make([]bool, 4))
}

func TestCodeModelsOfWrongSteps(t *testing.T) {
	refused := 0
	eachShortWalk(t, func(c chart, from, to int, steps []impl.Step) {
		for i := range len(steps) + 1 {
			// Where one more would be too many, one is another one.
			rest := steps[min(len(steps), i+max(0, len(steps)+1-impl.CodeMaxSteps)):]
			for _, s := range append(wrongSteps(len(c.r.Packs)), some(c.steps, 4)...) {
				wrong := slices.Concat(steps[:i], []impl.Step{s}, rest)
				if len(wrong) > impl.CodeMaxSteps {
					checkNoModel(t, c.r, setOf(from), wrong...)
					continue
				}
				_, allowed := c.walk(from, wrong)
				got, ok := impl.CodeModel(c.r, setOf(from), wrong)
				if ok != allowed || !ok && len(got) > 0 || ok && !slices.Equal(got, modelByWords(c.r, setOf(from), wrong)) {
					t.Fatalf("%v: from %v by %v: %v, %v", c.r, setOf(from), wrong, got, ok)
				}
				if !ok {
					refused++
				}
			}
		}
		// More than there may be, though each is allowed.
		if longer := c.thrownWalk(new(dice), to, impl.CodeMaxSteps+1-len(steps)); len(steps)+len(longer) > impl.CodeMaxSteps {
			checkNoModel(t, c.r, setOf(from), slices.Concat(steps, longer)...)
		}
	})
	if refused < 10000 {
		t.Errorf("only %d", refused)
	}
	r := dockOf(t, "room 9\npack a 1 1\npack a 2 1\npack b 1 1\ndep a 1 2\n")
	checkCodeModel(t, r, nil, []int{0}, []impl.Step{put(0), put(2), take(2)}, 12+24, 4, 7, 9, 10, 13, 13+8+2, 13+16+5)
	for _, steps := range [][]impl.Step{
		{put(2)}, {take(0)}, {put(0), put(0)}, {put(0), put(1)}, {put(0), take(1)}, {put(0), put(2), take(0)}, {put(0), swap(1, 0)}, {put(0), swap(0, 2)},
		{put(0), put(2), put(2)}, {put(0), {}}, {{}, put(0)}, {put(0), put(3)}, {put(0), {Kind: impl.StepTake, In: 1}}, {put(0), {Kind: impl.StepPut, In: 2, Out: 1}}, {put(0), put(2), swap(0, 1), take(0)},
	} {
		checkNoModel(t, r, nil, steps...)
	}
}

func TestCodesWriteNothing(t *testing.T) {
	for i, k := range codings() {
		if i%3 > 0 {
			continue
		}
		r, whole := roomy(k.c.r)
		before := whole()
		from, to := append(setOf(k.from), 0, 1, -5), append(setOf(k.to), 0, 1, -5)
		keptFrom, keptTo := slices.Clone(from), slices.Clone(to)
		c, ok := impl.CodeOf(r, from[:len(from)-3], to[:len(to)-3], k.n)
		if !ok || !sameCnf(c, k.cnf) {
			t.Fatalf("%v: spare room matters", k)
		}
		if k.f.code == impl.SatYes {
			model := append(slices.Clone(k.f.model), true, false, true)
			kept := slices.Clone(model)
			plan, _ := impl.CodePlan(r, k.n, model[:len(model)-3])
			steps := append(slices.Clone(plan), put(0), impl.Step{Kind: -5})
			keptSteps := slices.Clone(steps)
			again, is := impl.CodeModel(r, from[:len(from)-3], steps[:len(steps)-2])
			if !is || !slices.Equal(again, k.f.model) || !slices.Equal(model, kept) || !slices.Equal(steps, keptSteps) {
				t.Fatalf("%v: spare room matters, or was changed", k)
			}
		}
		impl.CodeOf(r, from, to, k.n)
		impl.CodeModel(r, from, nil)
		if !slices.Equal(from, keptFrom) || !slices.Equal(to, keptTo) || whole() != before {
			t.Fatalf("%v: an argument was changed", k)
		}
	}
	for _, bad := range append(badRepos(), ofNames("a", "b", "c", "d", "e", "f")) {
		r, whole := roomy(bad)
		before := whole()
		impl.CodeOf(r, nil, []int{0}, 1)
		impl.CodePlan(r, 1, make([]bool, 4))
		impl.CodeModel(r, nil, []impl.Step{put(0)})
		if whole() != before {
			t.Fatalf("%v was changed", bad)
		}
	}
}

func TestCodesAreNewMemory(t *testing.T) {
	for i, k := range codings() {
		if i%10 > 0 {
			continue
		}
		from, to := append(setOf(k.from), -5)[:len(setOf(k.from))], append(setOf(k.to), -5)[:len(setOf(k.to))]
		c, _ := impl.CodeOf(k.c.r, from, to, k.n)
		for place := range c.Clauses {
			spoilt(c.Clauses[place])
			if next := place + 1; next < len(c.Clauses) && !slices.Equal(c.Clauses[next], k.cnf.Clauses[next]) {
				t.Fatalf("%v: clauses %d and %d share memory", k, place, next)
			}
		}
		for place := range c.Clauses[:cap(c.Clauses)] {
			c.Clauses[:cap(c.Clauses)][place] = []int{-7}
		}
		if again, _ := impl.CodeOf(k.c.r, from, to, k.n); !sameCnf(again, k.cnf) || !sameCnf(k.cnf, codeByWords(k.c.r, from, to, k.n)) {
			t.Fatalf("%v: two answers share memory", k)
		}
		if from[:len(from)+1][len(from)] != -5 || to[:len(to)+1][len(to)] != -5 {
			t.Fatalf("%v: a state was changed", k)
		}
	}
	eachShortWalk(t, func(c chart, from, to int, steps []impl.Step) {
		model, _ := impl.CodeModel(c.r, setOf(from), steps)
		kept := slices.Clone(model)
		plan, _ := impl.CodePlan(c.r, len(steps), model)
		for i := range plan[:cap(plan)] {
			plan[:cap(plan)][i] = impl.Step{Kind: -7}
		}
		again, ok := impl.CodePlan(c.r, len(steps), model)
		if !ok || !slices.Equal(again, steps) || !slices.Equal(model, kept) {
			t.Fatalf("%v: plans share memory", c.r)
		}
		for i := range model[:cap(model)] {
			model[:cap(model)][i] = !model[:cap(model)][i]
		}
		if other, _ := impl.CodeModel(c.r, setOf(from), again); !slices.Equal(other, kept) || !slices.Equal(again, steps) {
			t.Fatalf("%v: models share memory", c.r)
		}
	})
}

func TestNoTwoClausesShareMemory(t *testing.T) {
	// All are looked at behind each that is spoilt, also those that are told alike.
	r := mostAsked()
	c, _ := impl.CodeOf(r, []int{1}, []int{3}, 1)
	want := copyCnf(c)
	for place := range c.Clauses {
		spoilt(c.Clauses[place])
		for other := place + 1; other < len(c.Clauses); other++ {
			if !slices.Equal(c.Clauses[other], want.Clauses[other]) {
				t.Fatalf("clauses %d and %d share memory", place, other)
			}
		}
	}
}

func TestCodesKeepNothing(t *testing.T) {
	list := codings()[:400]
	for range 2 {
		for i, k := range list {
			other := list[(i*7+3)%len(list)]
			impl.CodeOf(other.c.r, setOf(other.from), setOf(other.to), other.n)
			impl.CodePlan(other.c.r, other.n, other.f.model)
			impl.CodeModel(other.c.r, setOf(other.from), nil)
			impl.CodeOf(k.c.r, nil, nil, -1)
			if c, ok := impl.CodeOf(k.c.r, setOf(k.from), setOf(k.to), k.n); !ok || !sameCnf(c, k.cnf) {
				t.Fatalf("%v: other clauses now", k)
			}
		}
	}
	// What the caller changes behind a call counts in the next one.
	r := dockOf(t, "room 1\npack a 1 1\n")
	checkCode(t, r, nil, nil, 0, 1, clausesOf(t, "-1, -1")...)
	r.Packs[0].Size = 2
	checkCode(t, r, nil, nil, 0, 1, clausesOf(t, "-1, -1, -1")...)
	r.Packs[0].Deps = [][]impl.Req{{req("b", 0, 9)}}
	checkCode(t, r, nil, nil, 0, 1, clausesOf(t, "-1, -1, -1, -1")...)
	r.Packs[0].Name = "B"
	checkNoCode(t, r, nil, nil, 0)
}
