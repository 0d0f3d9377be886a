package tests

import (
	"fmt"
	"math"
	"slices"
	"strings"

	"loop.example/drydock/impl"
)

// dice is a fixed row of numbers that look thrown: tests tell the same each time.
type dice uint64

func (d *dice) below(n int) int {
	*d = *d*6364136223846793005 + 1442695040888963407
	return int(uint64(*d)>>33) % n
}

func (d *dice) one(list ...string) string {
	return list[d.below(len(list))]
}

func req(name string, low, high int) impl.Req {
	return impl.Req{Name: name, Low: low, High: high}
}

// manyReqs is so many requests of one name.
func manyReqs(n int) []impl.Req {
	var list []impl.Req
	for i := range n {
		list = append(list, req("lib", i, i+1))
	}
	return list
}

// manyPacks is so many packs in order that ask for nothing.
func manyPacks(n int) []impl.Pack {
	var list []impl.Pack
	for i := range n {
		list = append(list, impl.Pack{Name: "a", Ver: i, Size: i})
	}
	return list
}

// longest is the packs with the longest text that there is.
func longest() impl.Repo {
	reqs := func() []impl.Req {
		q := req("zzzzzz", 99, 99)
		return []impl.Req{q, q, q, q}
	}
	r := impl.Repo{Room: 999}
	for i := range 8 {
		p := impl.Pack{Name: "zzzzzz", Ver: 92 + i, Size: 999, Pres: reqs(), Bans: reqs()}
		for range 4 {
			p.Deps = append(p.Deps, reqs())
		}
		r.Packs = append(r.Packs, p)
	}
	return r
}

func thrownReqs(d *dice, least int) []impl.Req {
	var list []impl.Req
	for range least + d.below(impl.RepoMaxReqs+1-least) {
		low := d.below(impl.RepoMaxVer + 1)
		list = append(list, req(d.one("a", "app", "lib", "zzzzzz"), low, low+d.below(impl.RepoMaxVer+1-low)))
	}
	return list
}

// thrownRepo is packs that are ok, of few names and versions, so that many fit.
func thrownRepo(d *dice) impl.Repo {
	r := impl.Repo{Room: d.below(impl.RepoMaxSize + 1)}
	for _, name := range []string{"a", "app", "lib", "zzzzzz"} {
		for _, ver := range []int{0, 2, 10, 99} {
			if len(r.Packs) == impl.RepoMax || d.below(2) == 0 {
				continue
			}
			p := impl.Pack{Name: name, Ver: ver, Size: d.below(impl.RepoMaxSize + 1), Pres: thrownReqs(d, 0), Bans: thrownReqs(d, 0)}
			for range d.below(impl.RepoMaxReqs + 1) {
				p.Deps = append(p.Deps, thrownReqs(d, 1))
			}
			r.Packs = append(r.Packs, p)
		}
	}
	return r
}

// okRepos is packs that are ok, ordinary ones and those at the document's edges.
func okRepos() []impl.Repo {
	list := []impl.Repo{
		{},
		{Room: 999},
		{Packs: []impl.Pack{{Name: "a"}}},
		{Packs: []impl.Pack{{Name: "zzzzzz", Ver: 99, Size: 999}}},
		{Packs: manyPacks(impl.RepoMax), Room: 1},
		{Packs: []impl.Pack{{Name: "a", Ver: 2}, {Name: "a", Ver: 10}, {Name: "aa", Ver: 0}, {Name: "ab"}, {Name: "b"}}},
		{Packs: []impl.Pack{{Name: "a", Deps: [][]impl.Req{{req("a", 0, 0)}, manyReqs(4), {req("b", 99, 99)}, manyReqs(2)}}}},
		{Packs: []impl.Pack{{Name: "a", Pres: manyReqs(4)}, {Name: "b", Bans: manyReqs(4)}}},
		longest(),
	}
	d := dice(1)
	for range 200 {
		list = append(list, thrownRepo(&d))
	}
	return list
}

// badRepos is packs that are not ok, each for one reason.
func badRepos() []impl.Repo {
	pack := func(p impl.Pack) impl.Repo { return impl.Repo{Packs: []impl.Pack{p}, Room: 9} }
	return []impl.Repo{
		{Packs: manyPacks(impl.RepoMax + 1), Room: 9},
		{Packs: []impl.Pack{{Name: "b"}, {Name: "a"}}, Room: 9},
		{Packs: []impl.Pack{{Name: "a", Ver: 2}, {Name: "a", Ver: 1}}, Room: 9},
		{Packs: []impl.Pack{{Name: "a"}, {Name: "a"}}, Room: 9},
		{Packs: manyPacks(2), Room: -1},
		{Packs: manyPacks(2), Room: impl.RepoMaxSize + 1},
		{Room: -1},
		{Room: impl.RepoMaxSize + 1},
		pack(impl.Pack{Name: ""}),
		pack(impl.Pack{Name: "A"}),
		pack(impl.Pack{Name: "aaaaaaa"}),
		pack(impl.Pack{Name: "a", Ver: -1}),
		pack(impl.Pack{Name: "a", Ver: impl.RepoMaxVer + 1}),
		pack(impl.Pack{Name: "a", Size: -1}),
		pack(impl.Pack{Name: "a", Size: impl.RepoMaxSize + 1}),
		pack(impl.Pack{Name: "a", Deps: [][]impl.Req{{}}}),
		pack(impl.Pack{Name: "a", Deps: [][]impl.Req{{req("a", 0, 0)}, {req("a", 0, 0)}, {req("a", 0, 0)}, {req("a", 0, 0)}, {req("a", 0, 0)}}}),
		pack(impl.Pack{Name: "a", Deps: [][]impl.Req{{req("a", 1, 0)}}}),
		pack(impl.Pack{Name: "a", Pres: manyReqs(5)}),
		pack(impl.Pack{Name: "a", Bans: manyReqs(5)}),
		pack(impl.Pack{Name: "a", Bans: []impl.Req{req("a", 0, 100)}}),
	}
}

func fewReqs(d *dice, most int) []impl.Req {
	var list []impl.Req
	for range 1 + d.below(most) {
		low := d.below(4)
		list = append(list, req(d.one("a", "b", "c", "d", "e"), low, low+d.below(4-low)))
	}
	return list
}

// thrownDock is at most so many packs that ask for little: of their states many are healthy, and many are not.
func thrownDock(d *dice, most int) impl.Repo {
	r := impl.Repo{Room: d.below(13)}
	for _, name := range []string{"a", "b", "c", "d"} {
		for ver := 1; ver <= 3; ver++ {
			if len(r.Packs) == most || d.below(2) == 0 {
				continue
			}
			p := impl.Pack{Name: name, Ver: ver, Size: d.below(5)}
			for range d.below(2) + d.below(2)*d.below(2) {
				p.Deps = append(p.Deps, fewReqs(d, 3))
			}
			if d.below(3) == 0 {
				p.Pres = fewReqs(d, 2)
			}
			if d.below(3) == 0 {
				p.Bans = fewReqs(d, 2)
			}
			r.Packs = append(r.Packs, p)
		}
	}
	return r
}

// aheadDock is at most so many packs that ask for what is ahead of them, and for nothing with them: steps hang on little else.
func aheadDock(d *dice, most int) impl.Repo {
	r := nothingAsked(thrownDock(d, most))
	r.Room += 4
	for i := range r.Packs {
		if d.below(2) == 0 {
			r.Packs[i].Pres = fewReqs(d, 2)
		}
	}
	return r
}

// docks is packs of which many are healthy together, and those at the document's edges.
func docks() []impl.Repo {
	list := okRepos()[:40]
	free := impl.Repo{Room: 3}
	for _, name := range []string{"a", "b", "c", "d", "e", "f", "g", "h"} {
		free.Packs = append(free.Packs, impl.Pack{Name: name, Size: len(free.Packs) % 3})
	}
	list = append(list, free)
	d := dice(3)
	for i := range 300 {
		list = append(list, thrownDock(&d, 1+i%impl.RepoMax))
	}
	for i := range 120 {
		list = append(list, aheadDock(&d, 1+i%impl.RepoMax))
	}
	return list
}

// setOf is the places whose bits are set.
func setOf(bits int) []int {
	var set []int
	for i := 0; bits>>i > 0; i++ {
		if bits>>i&1 == 1 {
			set = append(set, i)
		}
	}
	return set
}

// allSets is all sets of so many places, ascending by bits.
func allSets(n int) [][]int {
	var list [][]int
	for bits := range 1 << n {
		list = append(list, setOf(bits))
	}
	return list
}

// wrongSets is lists of places that are no state of so many packs.
func wrongSets(n int) [][]int {
	list := [][]int{{-1}, {n}, {math.MinInt}, {math.MaxInt}, {0, n}, {-1, 0}, {0, 0}, {1, 0}, {0, math.MaxInt}, make([]int, 100000)}
	if n > 1 {
		list = append(list, []int{n - 1, n}, []int{n - 1, n - 1}, []int{n - 1, 0}, []int{0, 1, 1}, []int{0, 1, 0}, []int{1, 1}, []int{0, -1}, []int{0, 1, n})
	}
	return list
}

// fitsOne says whether a pack fits one of some requests.
func fitsOne(p impl.Pack, reqs []impl.Req) bool {
	return slices.ContainsFunc(reqs, func(q impl.Req) bool {
		return p.Name == q.Name && q.Low <= p.Ver && p.Ver <= q.High
	})
}

// roomOf is the room of packs at places, counted by hand.
func roomOf(r impl.Repo, set []int) int {
	sum := 0
	for _, i := range set {
		sum += r.Packs[i].Size
	}
	return sum
}

// unserved says what is wrong with a state of packs that are ok, by the document's words; empty, if it is healthy.
func unserved(r impl.Repo, set []int) string {
	if roomOf(r, set) > r.Room {
		return "room"
	}
	for _, i := range set {
		p := r.Packs[i]
		for _, j := range set {
			if i != j && r.Packs[j].Name == p.Name {
				return "twice"
			}
			if i != j && fitsOne(r.Packs[j], p.Bans) {
				return "ban"
			}
		}
		for _, row := range p.Deps {
			if !slices.ContainsFunc(set, func(j int) bool { return fitsOne(r.Packs[j], row) }) {
				return "dep"
			}
		}
	}
	return ""
}

// everyStep is all steps that there might be, by the document's words.
func everyStep(r impl.Repo) []impl.Step {
	var list []impl.Step
	for i := range r.Packs {
		list = append(list, impl.Step{Kind: impl.StepPut, In: i})
	}
	for i := range r.Packs {
		list = append(list, impl.Step{Kind: impl.StepTake, Out: i})
	}
	for out, p := range r.Packs {
		for in, q := range r.Packs {
			if in != out && p.Name == q.Name {
				list = append(list, impl.Step{Kind: impl.StepSwap, In: in, Out: out})
			}
		}
	}
	return list
}

// keptBy is what a step leaves there of a state.
func keptBy(set []int, s impl.Step) []int {
	return slices.DeleteFunc(slices.Clone(set), func(i int) bool { return s.Kind != impl.StepPut && i == s.Out })
}

// behindOf is what would be there behind a step, allowed or not.
func behindOf(set []int, s impl.Step) []int {
	list := keptBy(set, s)
	if s.Kind != impl.StepTake {
		list = append(list, s.In)
		slices.Sort(list)
	}
	return list
}

// refusal says why a step is not allowed from a state in form of packs that are ok, by the document's words; empty, if it is.
func refusal(r impl.Repo, set []int, s impl.Step) string {
	if unserved(r, set) != "" {
		return "state"
	}
	if !slices.Contains(everyStep(r), s) {
		return "step"
	}
	if s.Kind != impl.StepPut && !slices.Contains(set, s.Out) {
		return "out"
	}
	if s.Kind != impl.StepTake {
		if slices.Contains(set, s.In) {
			return "in"
		}
		p := r.Packs[s.In]
		for _, q := range p.Pres {
			if !slices.ContainsFunc(keptBy(set, s), func(i int) bool { return fitsOne(r.Packs[i], []impl.Req{q}) }) {
				return "pre"
			}
		}
		if roomOf(r, set)+p.Size > r.Room {
			return "room"
		}
	}
	if unserved(r, behindOf(set, s)) != "" {
		return "then"
	}
	return ""
}

// withRoom is the same packs with other room.
func withRoom(r impl.Repo, room int) impl.Repo {
	r.Room = room
	return r
}

// nothingAsked is the same packs, asking for nothing.
func nothingAsked(r impl.Repo) impl.Repo {
	c := impl.Repo{Room: r.Room}
	for _, p := range r.Packs {
		c.Packs = append(c.Packs, impl.Pack{Name: p.Name, Ver: p.Ver, Size: p.Size})
	}
	return c
}

func copyReqs(list []impl.Req) []impl.Req {
	return append([]impl.Req(nil), list...)
}

// copyRepo is the same packs in memory of their own.
func copyRepo(r impl.Repo) impl.Repo {
	c := impl.Repo{Room: r.Room}
	for _, p := range r.Packs {
		q := impl.Pack{Name: p.Name, Ver: p.Ver, Size: p.Size, Pres: copyReqs(p.Pres), Bans: copyReqs(p.Bans)}
		for _, row := range p.Deps {
			q.Deps = append(q.Deps, copyReqs(row))
		}
		c.Packs = append(c.Packs, q)
	}
	return c
}

// told is all that packs are; the empty list and the nil list are told alike.
func told(r impl.Repo) string {
	return fmt.Sprintf("%v", r)
}

// textOf writes packs as the document says, without asking whether they are ok.
func textOf(r impl.Repo) string {
	var b strings.Builder
	line := func(word string, list []impl.Req) {
		b.WriteString(word)
		for _, q := range list {
			fmt.Fprintf(&b, " %s %d %d", q.Name, q.Low, q.High)
		}
		b.WriteString("\n")
	}
	fmt.Fprintf(&b, "room %d\n", r.Room)
	for _, p := range r.Packs {
		fmt.Fprintf(&b, "pack %s %d %d\n", p.Name, p.Ver, p.Size)
		for _, row := range p.Deps {
			line("dep", row)
		}
		if len(p.Pres) > 0 {
			line("pre", p.Pres)
		}
		if len(p.Bans) > 0 {
			line("ban", p.Bans)
		}
	}
	return b.String()
}
