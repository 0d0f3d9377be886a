package tests

import (
	"slices"
	"testing"

	"loop.example/drydock/impl"
)

// dockOf reads packs for a test that names them by their text.
func dockOf(t *testing.T, text string) impl.Repo {
	t.Helper()
	r, ok := impl.RepoRead(text)
	if !ok {
		t.Fatalf("%q is not read", text)
	}
	return r
}

// checkStates asks StateOk of all states, and StateList, for just these.
func checkStates(t *testing.T, r impl.Repo, healthy ...[]int) {
	t.Helper()
	next := 0
	for _, set := range allSets(len(r.Packs)) {
		want := next < len(healthy) && slices.Equal(set, healthy[next])
		if want {
			next++
		}
		if impl.StateOk(r, set) != want {
			t.Errorf("%v: %v is healthy: %v", r, set, !want)
		}
	}
	if next < len(healthy) {
		t.Fatalf("the test's own list is out of order: %v", healthy)
	}
	if got := impl.StateList(r); !slices.EqualFunc(got, healthy, slices.Equal) {
		t.Errorf("%v: %v are listed, not %v", r, got, healthy)
	}
}

func TestPromise7RoomOfParts(t *testing.T) {
	for _, r := range docks() {
		for bits, set := range allSets(len(r.Packs)) {
			if got := impl.StateSize(r, set); got != roomOf(r, set) {
				t.Fatalf("%v: %v needs %d", r, set, got)
			}
			for _, mask := range []int{0x01, 0x0f, 0x33, 0x55} {
				if impl.StateSize(r, setOf(bits&mask))+impl.StateSize(r, setOf(bits&^mask)) != impl.StateSize(r, set) {
					t.Fatalf("%v: %v, parted by %b", r, set, mask)
				}
			}
		}
	}
	full := longest()
	if got := impl.StateSize(full, []int{0, 1, 2, 3, 4, 5, 6, 7}); got != 8*999 {
		t.Errorf("all that there can be needs %d", got)
	}
}

func TestPromise8OneVersionEachAndRoom(t *testing.T) {
	for _, r := range docks() {
		for _, set := range allSets(len(r.Packs)) {
			if !impl.StateOk(r, set) {
				continue
			}
			if impl.StateSize(r, set) > r.Room {
				t.Fatalf("%v: %v has no room", r, set)
			}
			for n, i := range set {
				for _, j := range set[:n] {
					if r.Packs[i].Name == r.Packs[j].Name {
						t.Fatalf("%v: %v has a name twice", r, set)
					}
				}
			}
		}
	}
}

func TestPromise9NothingIsHealthy(t *testing.T) {
	for _, r := range append(docks(), okRepos()...) {
		if !impl.StateOk(r, nil) || !impl.StateOk(r, []int{}) || impl.StateSize(r, nil) != 0 {
			t.Fatalf("%v: nothing is not healthy", r)
		}
		if list := impl.StateList(r); len(list) == 0 || len(list[0]) != 0 {
			t.Fatalf("%v: nothing is not listed first", r)
		}
	}
	for _, r := range badRepos() {
		if impl.RepoOk(r) {
			t.Fatalf("the test's own packs are ok: %v", r)
		}
		for _, set := range [][]int{nil, {}, {0}, {1}, {0, 1}, {-1}, {9}} {
			if impl.StateOk(r, set) || impl.StateSize(r, set) != -1 {
				t.Errorf("%v: %v is healthy, or in form", r, set)
			}
		}
		if list := impl.StateList(r); len(list) != 0 {
			t.Errorf("%v: %v are listed", r, list)
		}
	}
}

func TestPromise10AllHealthyAreListed(t *testing.T) {
	faults := map[string]int{}
	for _, r := range docks() {
		var want [][]int
		for _, set := range allSets(len(r.Packs)) {
			fault := unserved(r, set)
			faults[fault]++
			if fault == "" {
				want = append(want, set)
			}
		}
		checkStates(t, r, want...)
	}
	for _, fault := range []string{"", "room", "twice", "dep", "ban"} {
		if faults[fault] < 300 {
			t.Errorf("only %d states with fault %q", faults[fault], fault)
		}
	}
}

func TestPromise10OrderByBits(t *testing.T) {
	free := dockOf(t, "room 0\npack a 1 0\npack b 1 0\npack c 1 0\n")
	checkStates(t, free, nil, []int{0}, []int{1}, []int{0, 1}, []int{2}, []int{0, 2}, []int{1, 2}, []int{0, 1, 2})
	all := impl.Repo{}
	for _, name := range []string{"a", "b", "c", "d", "e", "f", "g", "h"} {
		all.Packs = append(all.Packs, impl.Pack{Name: name})
	}
	checkStates(t, all, allSets(8)...)
	checkStates(t, impl.Repo{}, nil)
	checkStates(t, impl.Repo{Packs: manyPacks(impl.RepoMax), Room: 5}, nil, []int{0}, []int{1}, []int{2}, []int{3}, []int{4}, []int{5})
}

func TestPromise11MoreRoom(t *testing.T) {
	for _, r := range docks() {
		for _, set := range impl.StateList(r) {
			for _, room := range []int{r.Room + 1, r.Room + 7, impl.RepoMaxSize} {
				if room <= impl.RepoMaxSize && !impl.StateOk(withRoom(r, room), set) {
					t.Fatalf("%v: %v is not healthy with room %d", r, set, room)
				}
			}
		}
	}
}

func TestRoomJustEnough(t *testing.T) {
	for _, r := range docks() {
		for _, set := range impl.StateList(r) {
			need := roomOf(r, set)
			if !impl.StateOk(withRoom(r, need), set) || need > 0 && impl.StateOk(withRoom(r, need-1), set) {
				t.Fatalf("%v: %v needs just %d", r, set, need)
			}
		}
	}
	sizes := "pack a 1 0\npack b 1 1\npack c 1 2\n"
	checkStates(t, dockOf(t, "room 0\n"+sizes), nil, []int{0})
	checkStates(t, dockOf(t, "room 1\n"+sizes), nil, []int{0}, []int{1}, []int{0, 1})
	checkStates(t, dockOf(t, "room 2\n"+sizes), nil, []int{0}, []int{1}, []int{0, 1}, []int{2}, []int{0, 2})
	checkStates(t, dockOf(t, "room 3\n"+sizes), allSets(3)...)
	big := "pack a 1 999\npack b 1 1\npack c 1 0\n"
	checkStates(t, dockOf(t, "room 999\n"+big), nil, []int{0}, []int{1}, []int{2}, []int{0, 2}, []int{1, 2})
}

func TestPromise12NeedsAreThere(t *testing.T) {
	asked := 0
	for _, r := range docks() {
		for _, set := range impl.StateList(r) {
			for _, i := range set {
				for _, row := range r.Packs[i].Deps {
					fits := func(j int) bool { return fitsOne(r.Packs[j], row) }
					if !slices.ContainsFunc(set, fits) {
						t.Fatalf("%v: %d of %v lacks what it needs", r, i, set)
					}
					less := slices.DeleteFunc(slices.Clone(set), fits)
					if slices.Contains(less, i) {
						asked++
						if impl.StateOk(r, less) {
							t.Fatalf("%v: %v is healthy without what %d needs", r, less, i)
						}
					}
				}
			}
		}
	}
	if asked < 100 {
		t.Errorf("only %d needs were asked", asked)
	}
}

func TestNeedsOfOne(t *testing.T) {
	others := "pack b 1 0\npack b 2 0\npack c 1 0\n"
	for _, c := range []struct {
		deps string
		want [][]int
	}{
		{"", [][]int{nil, {0}, {1}, {0, 1}, {2}, {0, 2}, {3}, {0, 3}, {1, 3}, {0, 1, 3}, {2, 3}, {0, 2, 3}}},
		{"dep a 1 1\n", [][]int{nil, {0}, {1}, {0, 1}, {2}, {0, 2}, {3}, {0, 3}, {1, 3}, {0, 1, 3}, {2, 3}, {0, 2, 3}}},
		{"dep e 0 99 a 0 99\n", [][]int{nil, {0}, {1}, {0, 1}, {2}, {0, 2}, {3}, {0, 3}, {1, 3}, {0, 1, 3}, {2, 3}, {0, 2, 3}}},
		{"dep a 2 2\n", [][]int{nil, {1}, {2}, {3}, {1, 3}, {2, 3}}},
		{"dep e 0 99\n", [][]int{nil, {1}, {2}, {3}, {1, 3}, {2, 3}}},
		{"dep b 2 2 e 0 99\n", [][]int{nil, {1}, {2}, {0, 2}, {3}, {1, 3}, {2, 3}, {0, 2, 3}}},
		{"dep e 0 99 b 0 0 b 3 99 b 2 2\n", [][]int{nil, {1}, {2}, {0, 2}, {3}, {1, 3}, {2, 3}, {0, 2, 3}}},
		{"dep b 1 2\n", [][]int{nil, {1}, {0, 1}, {2}, {0, 2}, {3}, {1, 3}, {0, 1, 3}, {2, 3}, {0, 2, 3}}},
		{"dep b 1 1 c 1 1\n", [][]int{nil, {1}, {0, 1}, {2}, {3}, {0, 3}, {1, 3}, {0, 1, 3}, {2, 3}, {0, 2, 3}}},
		{"dep b 1 1\ndep c 1 1\n", [][]int{nil, {1}, {2}, {3}, {1, 3}, {0, 1, 3}, {2, 3}}},
		{"dep b 1 1\ndep b 2 2\n", [][]int{nil, {1}, {2}, {3}, {1, 3}, {2, 3}}},
		{"dep a 1 1\ndep b 0 9\ndep c 0 9\ndep e 0 0\n", [][]int{nil, {1}, {2}, {3}, {1, 3}, {2, 3}}},
		{"pre e 0 99 c 1 1\n", [][]int{nil, {0}, {1}, {0, 1}, {2}, {0, 2}, {3}, {0, 3}, {1, 3}, {0, 1, 3}, {2, 3}, {0, 2, 3}}},
	} {
		checkStates(t, dockOf(t, "room 0\npack a 1 0\n"+c.deps+others), c.want...)
	}
	checkStates(t, dockOf(t, "room 0\npack a 1 0\ndep b 1 1\npack b 1 0\ndep a 1 1\n"), nil, []int{0, 1})
	checkStates(t, dockOf(t, "room 0\npack a 1 0\ndep b 1 1\npack b 1 0\ndep c 1 1\npack c 1 0\n"), nil, []int{2}, []int{1, 2}, []int{0, 1, 2})
}

func TestPromise13NoneIsBanned(t *testing.T) {
	banned := 0
	for _, r := range docks() {
		for _, set := range allSets(len(r.Packs)) {
			for _, i := range set {
				for _, j := range set {
					if i == j || !fitsOne(r.Packs[j], r.Packs[i].Bans) {
						continue
					}
					banned++
					if impl.StateOk(r, set) {
						t.Fatalf("%v: %d of %v bans %d", r, i, set, j)
					}
				}
			}
		}
	}
	if banned < 1000 {
		t.Errorf("only %d were banned", banned)
	}
}

func TestBansOfOne(t *testing.T) {
	free := [][]int{nil, {0}, {1}, {2}, {0, 2}, {1, 2}, {3}, {0, 3}, {1, 3}, {2, 3}, {0, 2, 3}, {1, 2, 3}}
	for _, c := range []struct {
		bans string
		want [][]int
	}{
		{"ban a 2 2\n", free},
		{"ban a 0 99\n", free},
		{"ban a 1 1\n", free},
		{"ban e 0 99\n", free},
		{"ban b 2 99\n", free},
		{"ban b 0 99 c 0 99\n", [][]int{nil, {0}, {1}, {2}, {0, 2}, {3}, {0, 3}, {2, 3}, {0, 2, 3}}},
		{"ban b 1 1\n", [][]int{nil, {0}, {1}, {2}, {0, 2}, {3}, {0, 3}, {1, 3}, {2, 3}, {0, 2, 3}}},
		{"dep b 1 1\nban b 1 1\n", [][]int{nil, {0}, {2}, {0, 2}, {3}, {0, 3}, {2, 3}, {0, 2, 3}}},
	} {
		checkStates(t, dockOf(t, "room 0\npack a 1 0\npack a 2 0\n"+c.bans+"pack b 1 0\npack c 1 0\n"), c.want...)
	}
	checkStates(t, dockOf(t, "room 0\npack a 1 0\npack a 2 0\ndep e 0 99 b 0 9 a 2 2\npack b 1 0\npack c 1 0\n"), free...)
	checkStates(t, dockOf(t, "room 0\npack a 1 0\npack a 2 0\ndep a 2 2\nban a 2 2\npack b 1 0\npack c 1 0\n"), free...)
	checkStates(t, dockOf(t, "room 0\npack a 1 0\npack a 2 0\npack b 1 0\nban b 1 1\npack c 1 0\nban c 0 99 a 1 1 e 1 1\n"),
		nil, []int{0}, []int{1}, []int{2}, []int{0, 2}, []int{1, 2}, []int{3}, []int{1, 3}, []int{2, 3}, []int{1, 2, 3})
	checkStates(t, dockOf(t, "room 0\npack a 1 0\npack a 2 0\npack b 1 0\npack c 1 0\nban a 2 2 b 1 1\n"),
		nil, []int{0}, []int{1}, []int{2}, []int{0, 2}, []int{1, 2}, []int{3}, []int{0, 3})
}

func TestPromise14NothingAskedFor(t *testing.T) {
	for _, r := range docks() {
		bare := nothingAsked(r)
		for _, set := range allSets(len(r.Packs)) {
			names := map[string]bool{}
			for _, i := range set {
				names[r.Packs[i].Name] = true
			}
			want := len(names) == len(set) && roomOf(r, set) <= r.Room
			if impl.StateOk(bare, set) != want {
				t.Fatalf("%v: %v is healthy: %v", bare, set, !want)
			}
			if impl.StateOk(r, set) && !want {
				t.Fatalf("%v: %v is healthy, but not with nothing asked for", r, set)
			}
		}
	}
}

func TestStatesOutOfForm(t *testing.T) {
	for _, r := range docks() {
		r = nothingAsked(withRoom(r, impl.RepoMaxSize))
		for _, set := range wrongSets(len(r.Packs)) {
			if impl.StateOk(r, set) || impl.StateSize(r, set) != -1 {
				t.Fatalf("%v: %.40v is healthy, or in form", r, set)
			}
		}
	}
	r := dockOf(t, "room 9\npack a 1 1\npack b 1 2\n")
	for code := range 5 * 5 * 5 * 5 {
		var set []int
		for left := code; left > 0; left /= 5 {
			if left%5 > 0 {
				set = append(set, left%5-2)
			}
		}
		want := -1
		switch {
		case len(set) == 0:
			want = 0
		case slices.Equal(set, []int{0}):
			want = 1
		case slices.Equal(set, []int{1}):
			want = 2
		case slices.Equal(set, []int{0, 1}):
			want = 3
		}
		if impl.StateSize(r, set) != want || impl.StateOk(r, set) != (want >= 0) {
			t.Fatalf("%v needs %d", set, impl.StateSize(r, set))
		}
	}
}

func TestStateListIsNewMemory(t *testing.T) {
	for _, r := range docks() {
		want := impl.StateList(r)
		list := impl.StateList(r)
		for i := range list {
			for j := range list[i][:cap(list[i])] {
				list[i][:cap(list[i])][j] = -7
			}
			for j := range list[i+1:] {
				if slices.Contains(list[i+1+j], -7) {
					t.Fatalf("%v: %d and %d share memory", r, i, i+1+j)
				}
			}
		}
		for i := range list[:cap(list)] {
			list[:cap(list)][i] = []int{-7}
		}
		if !slices.EqualFunc(impl.StateList(r), want, slices.Equal) {
			t.Fatalf("%v: two answers share memory", r)
		}
	}
}

func TestStatesWriteNothing(t *testing.T) {
	for n, r := range append(docks(), badRepos()...) {
		c, whole := roomy(r)
		before := whole()
		sets := append(wrongSets(len(r.Packs))[:9], setOf(1<<len(r.Packs)-1), setOf(n), nil)
		for _, set := range sets {
			full := append(slices.Clone(set), 0, 1, -5)
			given := full[:len(set)]
			kept := slices.Clone(full)
			if impl.StateSize(c, given) != impl.StateSize(r, set) || impl.StateOk(c, given) != impl.StateOk(r, set) {
				t.Fatalf("%v: spare room matters to %v", r, set)
			}
			if !slices.Equal(full, kept) {
				t.Fatalf("%v: %v was changed", r, set)
			}
		}
		if !slices.EqualFunc(impl.StateList(c), impl.StateList(r), slices.Equal) {
			t.Fatalf("%v: spare room matters", r)
		}
		if whole() != before {
			t.Fatalf("%v was changed", r)
		}
	}
}
