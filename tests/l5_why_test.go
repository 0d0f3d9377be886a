package tests

import (
	"fmt"
	"slices"
	"strings"
	"testing"

	"loop.example/drydock/impl"
)

func lacks(n int) impl.Why {
	return impl.Why{Kind: impl.WhyRoom, Pack: -1, With: n}
}

func beside(pack, with int) impl.Why {
	return impl.Why{Kind: impl.WhyTwice, Pack: pack, With: with}
}

func needs(pack, row int) impl.Why {
	return impl.Why{Kind: impl.WhyDep, Pack: pack, With: row}
}

func bans(pack, with int) impl.Why {
	return impl.Why{Kind: impl.WhyBan, Pack: pack, With: with}
}

// isFault says whether a fault is one of a state in form of packs that are ok, by the document's words.
func isFault(r impl.Repo, set []int, w impl.Why) bool {
	if w.Kind == impl.WhyRoom {
		return w.Pack == -1 && w.With > 0 && w.With == roomOf(r, set)-r.Room
	}
	if !slices.Contains(set, w.Pack) {
		return false
	}
	p := r.Packs[w.Pack]
	switch w.Kind {
	case impl.WhyTwice:
		return slices.Contains(set, w.With) && w.With < w.Pack && r.Packs[w.With].Name == p.Name
	case impl.WhyDep:
		return w.With >= 0 && w.With < len(p.Deps) &&
			!slices.ContainsFunc(set, func(i int) bool { return fitsOne(r.Packs[i], p.Deps[w.With]) })
	case impl.WhyBan:
		return slices.Contains(set, w.With) && w.With != w.Pack && fitsOne(r.Packs[w.With], p.Bans)
	}
	return false
}

// allFaults is all faults of a state in their order: of all that there might be those that are.
func allFaults(r impl.Repo, set []int) []impl.Why {
	var list []impl.Why
	ask := func(w impl.Why) {
		if isFault(r, set, w) {
			list = append(list, w)
		}
	}
	ask(lacks(roomOf(r, set) - r.Room))
	for i := range r.Packs {
		for kind := impl.WhyTwice; kind <= impl.WhyBan; kind++ {
			for with := range max(impl.RepoMax, impl.RepoMaxReqs) {
				ask(impl.Why{Kind: kind, Pack: i, With: with})
			}
		}
	}
	return list
}

// lineOf is the line of a fault, by the document's words.
func lineOf(r impl.Repo, w impl.Why) string {
	name := func(i int) string { return fmt.Sprintf("%s %d", r.Packs[i].Name, r.Packs[i].Ver) }
	switch w.Kind {
	case impl.WhyRoom:
		return fmt.Sprintf("room lacks %d", w.With)
	case impl.WhyTwice:
		return name(w.Pack) + " beside " + name(w.With)
	case impl.WhyBan:
		return name(w.Pack) + " bans " + name(w.With)
	}
	// A row is written just as the text of packs has it, so it is taken from there.
	alone := impl.Repo{Packs: []impl.Pack{{Name: "a", Deps: [][]impl.Req{r.Packs[w.Pack].Deps[w.With]}}}}
	row := strings.TrimPrefix(strings.Split(impl.RepoWrite(alone), "\n")[2], "dep")
	return name(w.Pack) + " lacks" + row
}

// checkWhy asks WhyNot for just these faults, and WhyText for a line of each.
func checkWhy(t *testing.T, r impl.Repo, set []int, want ...impl.Why) {
	t.Helper()
	if got := impl.WhyNot(r, set); !slices.Equal(got, want) {
		t.Errorf("%v: of %v %v is wrong, not %v", r, set, got, want)
	}
	text := "healthy\n"
	if len(want) > 0 {
		text = ""
	}
	for _, w := range want {
		text += lineOf(r, w) + "\n"
	}
	if got := impl.WhyText(r, set); got != text {
		t.Errorf("%v: of %v %q is told, not %q", r, set, got, text)
	}
}

// checkSilent asks WhyNot and WhyText of what is not in form.
func checkSilent(t *testing.T, r impl.Repo, set []int) {
	t.Helper()
	if got := impl.WhyNot(r, set); len(got) != 0 {
		t.Errorf("%v: of %.40v %v is wrong", r, set, got)
	}
	if got := impl.WhyText(r, set); got != "" {
		t.Errorf("%v: of %.40v %q is told", r, set, got)
	}
}

// eachState gives all states in form of many packs, and their faults, to a test.
func eachState(t *testing.T, ask func(r impl.Repo, set []int, list []impl.Why)) {
	for _, r := range docks() {
		for _, set := range allSets(len(r.Packs)) {
			ask(r, set, impl.WhyNot(r, set))
			if t.Failed() {
				t.FailNow()
			}
		}
	}
}

func TestPromise39NothingIsWrongJustWithWhatIsHealthy(t *testing.T) {
	healthy := 0
	eachState(t, func(r impl.Repo, set []int, list []impl.Why) {
		want := unserved(r, set) == ""
		if impl.StateOk(r, set) != want || (len(list) == 0) != want {
			t.Errorf("%v: %v is healthy: %v, and %v is wrong", r, set, want, list)
		}
		if (impl.WhyText(r, set) == "healthy\n") != want {
			t.Errorf("%v: %v is told to be healthy: %v", r, set, !want)
		}
		if want {
			healthy++
		}
	})
	if healthy < 1000 {
		t.Errorf("only %d states are healthy", healthy)
	}
	for _, r := range append(docks(), okRepos()...) {
		checkWhy(t, r, nil)
		checkWhy(t, r, []int{})
	}
}

func TestPromise40EachFaultIsOne(t *testing.T) {
	kinds := map[int]int{}
	several := 0
	eachState(t, func(r impl.Repo, set []int, list []impl.Why) {
		own := map[int]int{}
		for n, w := range list {
			if !isFault(r, set, w) {
				t.Errorf("%v: of %v %v is no fault", r, set, w)
			}
			if slices.Contains(list[:n], w) {
				t.Errorf("%v: of %v %v is told twice", r, set, w)
			}
			kinds[w.Kind]++
			own[w.Pack]++
		}
		for _, n := range own {
			if n >= 3 {
				several++
			}
		}
	})
	for kind := impl.WhyRoom; kind <= impl.WhyBan; kind++ {
		if kinds[kind] < 1000 {
			t.Errorf("only %d faults of kind %d", kinds[kind], kind)
		}
	}
	if several < 1000 {
		t.Errorf("only %d packs with several faults", several)
	}
}

// TestAllFaultsInOrder holds answers against all faults that there might be, so that none is left out.
func TestAllFaultsInOrder(t *testing.T) {
	eachState(t, func(r impl.Repo, set []int, list []impl.Why) {
		checkWhy(t, r, set, allFaults(r, set)...)
	})
}

func TestPromise41WithoutAPackNoFaultIsItsOwn(t *testing.T) {
	kept, come := 0, 0
	eachState(t, func(r impl.Repo, set []int, list []impl.Why) {
		for n, gone := range set {
			less := impl.WhyNot(r, slices.Delete(slices.Clone(set), n, n+1))
			for _, w := range less {
				if w.Pack == gone || w.With == gone && (w.Kind == impl.WhyTwice || w.Kind == impl.WhyBan) {
					t.Errorf("%v: of %v without %d %v is wrong", r, set, gone, w)
				}
				if w.Kind == impl.WhyDep && !slices.Contains(list, w) {
					come++
				}
			}
			for _, w := range list {
				stays := w.Kind != impl.WhyRoom && w.Pack != gone && (w.Kind == impl.WhyDep || w.With != gone)
				if stays {
					kept++
				}
				if stays && !slices.Contains(less, w) {
					t.Errorf("%v: of %v without %d %v is not wrong any more", r, set, gone, w)
				}
			}
		}
	})
	if kept < 1000 || come < 1000 {
		t.Errorf("only %d faults stay, and %d come", kept, come)
	}
}

func TestPromise42WithRoomAllElseIsWrongStill(t *testing.T) {
	lacking := 0
	eachState(t, func(r impl.Repo, set []int, list []impl.Why) {
		need := roomOf(r, set)
		if need > impl.RepoMaxSize {
			return
		}
		if need > r.Room {
			lacking++
			if len(list) == 0 || list[0] != lacks(need-r.Room) {
				t.Errorf("%v: of %v %v is wrong", r, set, list)
				return
			}
			list = list[1:]
		}
		for _, room := range []int{max(need, r.Room), impl.RepoMaxSize} {
			if got := impl.WhyNot(withRoom(r, room), set); !slices.Equal(got, list) {
				t.Errorf("%v: of %v with room %d %v is wrong, not %v", r, set, room, got, list)
			}
		}
	})
	if lacking < 1000 {
		t.Errorf("only %d states lack room", lacking)
	}
}

func TestPromise43EachFaultIsALine(t *testing.T) {
	eachState(t, func(r impl.Repo, set []int, list []impl.Why) {
		lines := strings.SplitAfter(impl.WhyText(r, set), "\n")
		if last := lines[len(lines)-1]; last != "" {
			t.Errorf("%v: of %v %q is told without a newline", r, set, last)
		}
		lines = lines[:len(lines)-1]
		if len(list) == 0 {
			if !slices.Equal(lines, []string{"healthy\n"}) {
				t.Errorf("%v: of %v %q is told", r, set, lines)
			}
			return
		}
		if len(lines) != len(list) {
			t.Errorf("%v: of %v %q is told, and %v is wrong", r, set, lines, list)
			return
		}
		for n, w := range list {
			if lines[n] != lineOf(r, w)+"\n" {
				t.Errorf("%v: of %v %v is told as %q", r, set, w, lines[n])
			}
		}
	})
}

func TestPromise44EachTwoOfANameOnce(t *testing.T) {
	pairs := 0
	eachState(t, func(r impl.Repo, set []int, list []impl.Why) {
		for n, i := range set {
			for _, j := range set[:n] {
				told := 0
				for _, w := range list {
					if w == beside(i, j) || w == beside(j, i) {
						told++
					}
				}
				want := 0
				if r.Packs[i].Name == r.Packs[j].Name {
					want = 1
					pairs++
				}
				if told != want {
					t.Errorf("%v: of %v %d and %d are told together %d times", r, set, j, i, told)
				}
			}
		}
	})
	if pairs < 1000 {
		t.Errorf("only %d pairs", pairs)
	}
}

func TestRoomThatLacks(t *testing.T) {
	sizes := "pack a 1 0\npack b 1 1\npack c 1 2\npack d 1 999\n"
	for _, c := range []struct {
		room int
		set  []int
		want []impl.Why
	}{
		{3, []int{0, 1, 2}, nil}, {2, []int{0, 1, 2}, []impl.Why{lacks(1)}}, {1, []int{0, 1, 2}, []impl.Why{lacks(2)}}, {0, []int{0, 1, 2}, []impl.Why{lacks(3)}},
		{2, []int{2}, nil}, {1, []int{2}, []impl.Why{lacks(1)}}, {0, []int{1}, []impl.Why{lacks(1)}}, {0, []int{0}, nil}, {0, nil, nil},
		{999, []int{3}, nil}, {999, []int{0, 3}, nil}, {998, []int{3}, []impl.Why{lacks(1)}}, {999, []int{1, 3}, []impl.Why{lacks(1)}}, {0, []int{0, 1, 2, 3}, []impl.Why{lacks(1002)}},
	} {
		checkWhy(t, dockOf(t, fmt.Sprintf("room %d\n", c.room)+sizes), c.set, c.want...)
	}
	full := impl.Repo{}
	for _, name := range []string{"a", "b", "c", "d", "e", "f", "g", "h"} {
		full.Packs = append(full.Packs, impl.Pack{Name: name, Size: 999})
	}
	checkWhy(t, full, setOf(255), lacks(8*999))
	checkWhy(t, withRoom(full, 999), setOf(255), lacks(7*999))
	checkWhy(t, withRoom(full, 998), setOf(1<<7), lacks(1))
}

func TestSeveralOfOneName(t *testing.T) {
	three := dockOf(t, "room 9\npack a 1 0\npack a 2 0\npack a 10 0\npack aa 1 0\n")
	checkWhy(t, three, []int{0, 1, 2, 3}, beside(1, 0), beside(2, 0), beside(2, 1))
	checkWhy(t, three, []int{0, 2}, beside(2, 0))
	checkWhy(t, three, []int{1, 2, 3}, beside(2, 1))
	checkWhy(t, three, []int{0, 3})
	two := dockOf(t, "room 9\npack a 1 0\npack a 2 0\npack b 1 0\npack b 2 0\n")
	checkWhy(t, two, []int{0, 1, 2, 3}, beside(1, 0), beside(3, 2))
	all := impl.Repo{Packs: manyPacks(impl.RepoMax), Room: 27}
	var want []impl.Why
	for i := range impl.RepoMax {
		for j := range i {
			want = append(want, beside(i, j))
		}
	}
	checkWhy(t, all, setOf(255), append([]impl.Why{lacks(1)}, want...)...)
	checkWhy(t, withRoom(all, 28), setOf(255), want...)
}

func TestRowsThatNothingFits(t *testing.T) {
	others := "pack b 1 0\npack b 2 0\npack c 1 0\n"
	for _, c := range []struct {
		deps string
		set  []int
		want []impl.Why
	}{
		{"dep b 1 1\ndep e 0 99\ndep c 1 1\ndep b 2 2\n", []int{0}, []impl.Why{needs(0, 0), needs(0, 1), needs(0, 2), needs(0, 3)}},
		{"dep b 1 1\ndep e 0 99\ndep c 1 1\ndep b 2 2\n", []int{0, 1}, []impl.Why{needs(0, 1), needs(0, 2), needs(0, 3)}},
		{"dep b 1 1\ndep e 0 99\ndep c 1 1\ndep b 2 2\n", []int{0, 2, 3}, []impl.Why{needs(0, 0), needs(0, 1)}},
		{"dep b 1 1\ndep e 0 99\ndep c 1 1\ndep b 2 2\n", []int{1, 3}, nil},
		{"dep a 1 1\n", []int{0}, nil},
		{"dep e 0 99 a 1 1\n", []int{0}, nil},
		{"dep a 0 0\ndep a 1 1\ndep a 2 99\n", []int{0}, []impl.Why{needs(0, 0), needs(0, 2)}},
		{"dep b 1 1\ndep b 1 1\n", []int{0, 3}, []impl.Why{needs(0, 0), needs(0, 1)}},
		{"dep b 1 1\ndep b 1 1\n", []int{0, 1}, nil},
		{"dep b 3 99 b 0 0 c 0 0 e 1 1\n", []int{0, 1, 3}, []impl.Why{needs(0, 0)}},
		{"dep b 3 99 b 0 0 c 0 9 e 1 1\n", []int{0, 1, 3}, nil},
		{"pre e 0 99 b 1 1\n", []int{0, 3}, nil},
	} {
		checkWhy(t, dockOf(t, "room 0\npack a 1 0\n"+c.deps+others), c.set, c.want...)
	}
	// What one needs does not matter to another, and each that needs it lacks it.
	both := dockOf(t, "room 0\npack a 1 0\ndep c 1 1\npack b 1 0\ndep c 1 1\ndep b 2 2\npack c 1 0\n")
	checkWhy(t, both, []int{0, 1}, needs(0, 0), needs(1, 0), needs(1, 1))
	checkWhy(t, both, []int{0, 1, 2}, needs(1, 1))
	checkWhy(t, both, []int{2})
	round := dockOf(t, "room 0\npack a 1 0\ndep b 1 1\npack b 1 0\ndep a 1 1\n")
	checkWhy(t, round, []int{0, 1})
	checkWhy(t, round, []int{0}, needs(0, 0))
	checkWhy(t, round, []int{1}, needs(1, 0))
}

func TestThoseThatAreBanned(t *testing.T) {
	others := "pack b 1 0\npack c 1 0\npack d 1 0\n"
	for _, c := range []struct {
		bans string
		set  []int
		want []impl.Why
	}{
		{"ban d 1 1 b 0 9 e 0 9\n", []int{0, 1, 2, 3}, []impl.Why{bans(0, 1), bans(0, 3)}},
		{"ban d 1 1 b 0 9 e 0 9\n", []int{0, 2, 3}, []impl.Why{bans(0, 3)}},
		{"ban d 1 1 b 0 9 e 0 9\n", []int{0, 2}, nil},
		{"ban d 1 1 b 0 9 e 0 9\n", []int{1, 2, 3}, nil},
		{"ban b 0 9 b 1 1 b 1 2 b 0 99\n", []int{0, 1}, []impl.Why{bans(0, 1)}},
		{"ban a 1 1\n", []int{0, 1, 2, 3}, nil},
		{"ban a 0 99\n", []int{0}, nil},
		{"ban a 0 99 c 0 99\n", []int{0, 1, 2}, []impl.Why{bans(0, 2)}},
		{"ban b 2 99 c 0 0\n", []int{0, 1, 2, 3}, nil},
		{"dep b 1 1\nban b 1 1\n", []int{0, 1}, []impl.Why{bans(0, 1)}},
		{"dep b 1 1\nban b 1 1\n", []int{0}, []impl.Why{needs(0, 0)}},
	} {
		checkWhy(t, dockOf(t, "room 0\npack a 1 0\n"+c.bans+others), c.set, c.want...)
	}
	each := dockOf(t, "room 0\npack a 1 0\nban b 1 1\npack b 1 0\nban a 1 1\n")
	checkWhy(t, each, []int{0, 1}, bans(0, 1), bans(1, 0))
	checkWhy(t, each, []int{0})
	checkWhy(t, each, []int{1})
	// A ban of its own name meets other versions, ahead and behind: they are beside it as well.
	versions := dockOf(t, "room 0\npack a 1 0\npack a 2 0\nban a 0 99\npack a 3 0\n")
	checkWhy(t, versions, []int{0, 1, 2}, beside(1, 0), bans(1, 0), bans(1, 2), beside(2, 0), beside(2, 1))
	checkWhy(t, versions, []int{1})
}

func TestSeveralFaults(t *testing.T) {
	r := dockOf(t, "room 9\n"+
		"pack a 1 4\ndep d 1 1\ndep b 0 9\ndep e 0 1 a 2 2 c 9 9\nban c 1 1 a 2 2\n"+
		"pack a 2 4\ndep z 0 0 y 12 99\nban a 1 2 b 1 2\n"+
		"pack b 1 2\nban a 0 99\n"+
		"pack c 1 0\ndep a 3 9\ndep c 1 1\npre b 1 1\n")
	checkWhy(t, r, []int{0, 1, 2, 3}, lacks(1), needs(0, 0), bans(0, 1), bans(0, 3), beside(1, 0), needs(1, 0), bans(1, 0), bans(1, 2), bans(2, 0), bans(2, 1), needs(3, 0))
	checkWhy(t, r, []int{0, 3}, needs(0, 0), needs(0, 1), needs(0, 2), bans(0, 3), needs(3, 0))
	checkWhy(t, r, []int{0, 1}, needs(0, 0), needs(0, 1), bans(0, 1), beside(1, 0), needs(1, 0), bans(1, 0))
	checkWhy(t, r, []int{2})
	want := "room lacks 1\n" +
		"a 1 lacks d 1 1\na 1 bans a 2\na 1 bans c 1\n" +
		"a 2 beside a 1\na 2 lacks z 0 0 y 12 99\na 2 bans a 1\na 2 bans b 1\n" +
		"b 1 bans a 1\nb 1 bans a 2\n" +
		"c 1 lacks a 3 9\n"
	if got := impl.WhyText(r, []int{0, 1, 2, 3}); got != want {
		t.Errorf("%q is told, not %q", got, want)
	}
}

func TestLinesOfFaults(t *testing.T) {
	wide := dockOf(t, "room 0\npack aaaaaa 10 999\ndep zzzzzz 99 99 b 0 0 c 1 20 b 0 0\ndep aaaaaa 10 99\nban b 0 9\npack aaaaaa 99 1\npack b 0 0\n")
	for _, c := range []struct {
		set  []int
		want string
	}{
		{nil, "healthy\n"},
		{[]int{2}, "healthy\n"},
		{[]int{1}, "room lacks 1\n"},
		{[]int{1, 2}, "room lacks 1\n"},
		{[]int{0}, "room lacks 999\naaaaaa 10 lacks zzzzzz 99 99 b 0 0 c 1 20 b 0 0\n"},
		{[]int{0, 2}, "room lacks 999\naaaaaa 10 bans b 0\n"},
		{[]int{0, 1, 2}, "room lacks 1000\naaaaaa 10 bans b 0\naaaaaa 99 beside aaaaaa 10\n"},
	} {
		if got := impl.WhyText(wide, c.set); got != c.want {
			t.Errorf("of %v %q is told, not %q", c.set, got, c.want)
		}
	}
	if got := impl.WhyText(impl.Repo{}, nil); got != "healthy\n" {
		t.Errorf("of no packs %q is told", got)
	}
}

// TestMostFaults has as many faults, and as long a text, as there can be.
func TestMostFaults(t *testing.T) {
	r := longest()
	for i := range r.Packs {
		for j := range r.Packs[i].Deps {
			r.Packs[i].Deps[j][0].Low = 0
			for n := range r.Packs[i].Deps[j] {
				r.Packs[i].Deps[j][n].Name = "zzzzzy"
			}
		}
		r.Packs[i].Bans = []impl.Req{req("zzzzzz", 10, 99)}
	}
	want := []impl.Why{lacks(8*999 - 999)}
	for i := range impl.RepoMax {
		for j := range i {
			want = append(want, beside(i, j))
		}
		for row := range impl.RepoMaxReqs {
			want = append(want, needs(i, row))
		}
		for j := range impl.RepoMax {
			if i != j {
				want = append(want, bans(i, j))
			}
		}
	}
	checkWhy(t, r, setOf(255), want...)
	checkWhy(t, longest(), setOf(255), allFaults(longest(), setOf(255))...)
}

func TestWhyOfWhatIsNotInForm(t *testing.T) {
	for _, r := range append(docks(), impl.Repo{}) {
		for _, set := range wrongSets(len(r.Packs)) {
			checkSilent(t, r, set)
		}
	}
	for _, r := range badRepos() {
		for _, set := range append(wrongSets(len(r.Packs)), nil, []int{}, []int{0}, []int{1}, []int{0, 1}) {
			checkSilent(t, r, set)
		}
	}
}

func TestWhyIsNewMemory(t *testing.T) {
	eachState(t, func(r impl.Repo, set []int, list []impl.Why) {
		want := slices.Clone(list)
		for i := range list[:cap(list)] {
			list[:cap(list)][i] = impl.Why{Kind: -7, Pack: -7, With: -7}
		}
		checkWhy(t, r, set, want...)
	})
}

func TestWhyWritesNothing(t *testing.T) {
	for n, r := range append(docks(), badRepos()...) {
		c, whole := roomy(r)
		before := whole()
		sets := append(wrongSets(len(r.Packs))[:9], setOf(1<<len(r.Packs)-1), setOf(n), nil)
		for _, set := range sets {
			full := append(slices.Clone(set), 0, 1, -5)
			given := full[:len(set)]
			kept := slices.Clone(full)
			if !slices.Equal(impl.WhyNot(c, given), impl.WhyNot(r, set)) || impl.WhyText(c, given) != impl.WhyText(r, set) {
				t.Fatalf("%v: spare room matters to %v", r, set)
			}
			if !slices.Equal(full, kept) {
				t.Fatalf("%v: %v was changed", r, set)
			}
		}
		if whole() != before {
			t.Fatalf("%v was changed", r)
		}
	}
}

func TestWhyKeepsNothing(t *testing.T) {
	r := dockOf(t, "room 1\npack a 1 1\ndep b 1 1\npack a 2 1\npack b 1 0\n")
	for range 2 {
		checkWhy(t, r, []int{0, 1}, lacks(1), needs(0, 0), beside(1, 0))
		checkSilent(t, r, []int{1, 0})
		checkWhy(t, r, []int{1})
		checkWhy(t, withRoom(r, 0), []int{1}, lacks(1))
	}
}
