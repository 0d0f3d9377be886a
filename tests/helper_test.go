package tests

import (
	"fmt"
	"strings"

	"loop.example/drydock/impl"
)

// dice is a fixed row of numbers that look thrown: tests tell the same each time.
type dice uint64

func (d *dice) below(n int) int {
	*d = *d*6364136223846793005 + 1442695040888963407
	return int(uint64(*d)>>33) % n
}

func (d *dice) one(list ...string) string {
	return list[d.below(len(list))]
}

func req(name string, low, high int) impl.Req {
	return impl.Req{Name: name, Low: low, High: high}
}

// manyReqs is so many requests of one name.
func manyReqs(n int) []impl.Req {
	var list []impl.Req
	for i := range n {
		list = append(list, req("lib", i, i+1))
	}
	return list
}

// manyPacks is so many packs in order that ask for nothing.
func manyPacks(n int) []impl.Pack {
	var list []impl.Pack
	for i := range n {
		list = append(list, impl.Pack{Name: "a", Ver: i, Size: i})
	}
	return list
}

// longest is the packs with the longest text that there is.
func longest() impl.Repo {
	reqs := func() []impl.Req {
		q := req("zzzzzz", 99, 99)
		return []impl.Req{q, q, q, q}
	}
	r := impl.Repo{Room: 999}
	for i := range 8 {
		p := impl.Pack{Name: "zzzzzz", Ver: 92 + i, Size: 999, Pres: reqs(), Bans: reqs()}
		for range 4 {
			p.Deps = append(p.Deps, reqs())
		}
		r.Packs = append(r.Packs, p)
	}
	return r
}

func thrownReqs(d *dice, least int) []impl.Req {
	var list []impl.Req
	for range least + d.below(impl.RepoMaxReqs+1-least) {
		low := d.below(impl.RepoMaxVer + 1)
		list = append(list, req(d.one("a", "app", "lib", "zzzzzz"), low, low+d.below(impl.RepoMaxVer+1-low)))
	}
	return list
}

// thrownRepo is packs that are ok, of few names and versions, so that many fit.
func thrownRepo(d *dice) impl.Repo {
	r := impl.Repo{Room: d.below(impl.RepoMaxSize + 1)}
	for _, name := range []string{"a", "app", "lib", "zzzzzz"} {
		for _, ver := range []int{0, 2, 10, 99} {
			if len(r.Packs) == impl.RepoMax || d.below(2) == 0 {
				continue
			}
			p := impl.Pack{Name: name, Ver: ver, Size: d.below(impl.RepoMaxSize + 1), Pres: thrownReqs(d, 0), Bans: thrownReqs(d, 0)}
			for range d.below(impl.RepoMaxReqs + 1) {
				p.Deps = append(p.Deps, thrownReqs(d, 1))
			}
			r.Packs = append(r.Packs, p)
		}
	}
	return r
}

// okRepos is packs that are ok, ordinary ones and those at the document's edges.
func okRepos() []impl.Repo {
	list := []impl.Repo{
		{},
		{Room: 999},
		{Packs: []impl.Pack{{Name: "a"}}},
		{Packs: []impl.Pack{{Name: "zzzzzz", Ver: 99, Size: 999}}},
		{Packs: manyPacks(impl.RepoMax), Room: 1},
		{Packs: []impl.Pack{{Name: "a", Ver: 2}, {Name: "a", Ver: 10}, {Name: "aa", Ver: 0}, {Name: "ab"}, {Name: "b"}}},
		{Packs: []impl.Pack{{Name: "a", Deps: [][]impl.Req{{req("a", 0, 0)}, manyReqs(4), {req("b", 99, 99)}, manyReqs(2)}}}},
		{Packs: []impl.Pack{{Name: "a", Pres: manyReqs(4)}, {Name: "b", Bans: manyReqs(4)}}},
		longest(),
	}
	d := dice(1)
	for range 200 {
		list = append(list, thrownRepo(&d))
	}
	return list
}

func copyReqs(list []impl.Req) []impl.Req {
	return append([]impl.Req(nil), list...)
}

// copyRepo is the same packs in memory of their own.
func copyRepo(r impl.Repo) impl.Repo {
	c := impl.Repo{Room: r.Room}
	for _, p := range r.Packs {
		q := impl.Pack{Name: p.Name, Ver: p.Ver, Size: p.Size, Pres: copyReqs(p.Pres), Bans: copyReqs(p.Bans)}
		for _, row := range p.Deps {
			q.Deps = append(q.Deps, copyReqs(row))
		}
		c.Packs = append(c.Packs, q)
	}
	return c
}

// told is all that packs are; the empty list and the nil list are told alike.
func told(r impl.Repo) string {
	return fmt.Sprintf("%v", r)
}

// textOf writes packs as the document says, without asking whether they are ok.
func textOf(r impl.Repo) string {
	var b strings.Builder
	line := func(word string, list []impl.Req) {
		b.WriteString(word)
		for _, q := range list {
			fmt.Fprintf(&b, " %s %d %d", q.Name, q.Low, q.High)
		}
		b.WriteString("\n")
	}
	fmt.Fprintf(&b, "room %d\n", r.Room)
	for _, p := range r.Packs {
		fmt.Fprintf(&b, "pack %s %d %d\n", p.Name, p.Ver, p.Size)
		for _, row := range p.Deps {
			line("dep", row)
		}
		if len(p.Pres) > 0 {
			line("pre", p.Pres)
		}
		if len(p.Bans) > 0 {
			line("ban", p.Bans)
		}
	}
	return b.String()
}
