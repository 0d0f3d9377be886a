package tests

import (
	"math"
	"regexp"
	"slices"
	"strconv"
	"strings"
	"testing"
	"unsafe"

	"loop.example/drydock/impl"
)

const ordinary = "room 10\npack app 1 3\ndep lib 1 1\npack app 2 4\ndep lib 2 9 lib 20 99\ndep app 2 2\npre lib 2 2\npack lib 1 2\npack lib 2 2\npre app 0 99\nban app 1 1\n"

// grammar is the texts of packs, but for what packs are in order and Low and High.
var grammar = func() *regexp.Regexp {
	name, ver, size := `[a-z]{1,6}`, `(?:0|[1-9][0-9]?)`, `(?:0|[1-9][0-9]?[0-9]?)`
	row := `(?: ` + name + ` ` + ver + ` ` + ver + `){1,4}\n`
	pack := `pack ` + name + ` ` + ver + ` ` + size + `\n(?:dep` + row + `){0,4}(?:pre` + row + `)?(?:ban` + row + `)?`
	return regexp.MustCompile(`\Aroom ` + size + `\n(?:` + pack + `){0,8}\z`)
}()

// isText says by other means than the program whether a text is one of packs.
func isText(text string) bool {
	if len(text) > 3000 || !grammar.MatchString(text) {
		return false
	}
	lastName, lastVer := "", -1
	for _, line := range strings.Split(text, "\n") {
		words := strings.Split(line, " ")
		number := func(i int) int {
			n, _ := strconv.Atoi(words[i])
			return n
		}
		switch words[0] {
		case "pack":
			if words[1] < lastName || words[1] == lastName && number(2) <= lastVer {
				return false
			}
			lastName, lastVer = words[1], number(2)
		case "dep", "pre", "ban":
			for i := 1; i < len(words); i += 3 {
				if number(i+1) > number(i+2) {
					return false
				}
			}
		}
	}
	return true
}

// checkText asks RepoRead of a text all that the document says of it.
func checkText(t *testing.T, text string) {
	t.Helper()
	r, ok := impl.RepoRead(text)
	if ok != isText(text) {
		t.Fatalf("%q is read: %v", text, ok)
	}
	if ok && (!impl.RepoOk(r) || textOf(r) != text || impl.RepoWrite(r) != text) {
		t.Fatalf("%q is read as %v", text, r)
	}
	if !ok && (len(r.Packs) != 0 || r.Room != 0) {
		t.Fatalf("%q is not read, and tells %v", text, r)
	}
}

// checkBad asks that packs are not ok, and what each function answers of such.
func checkBad(t *testing.T, what string, r impl.Repo) {
	t.Helper()
	if impl.RepoOk(r) {
		t.Errorf("%.60q: ok", what)
	}
	if text := impl.RepoWrite(r); text != "" {
		t.Errorf("%.60q: written as %.60q", what, text)
	}
	for _, p := range r.Packs {
		if hits := impl.RepoHits(r, req(p.Name, math.MinInt, math.MaxInt)); len(hits) != 0 {
			t.Errorf("%.60q: hits %v", what, hits)
		}
	}
	if len(textOf(r)) < 10000 {
		if _, ok := impl.RepoRead(textOf(r)); ok && !isText(textOf(r)) {
			t.Errorf("%.60q: read", what)
		}
	}
}

func checkGood(t *testing.T, what string, r impl.Repo) {
	t.Helper()
	if !impl.RepoOk(r) || impl.RepoWrite(r) != textOf(r) {
		t.Errorf("%.60q: not ok", what)
	}
}

func TestPromise1PacksAreReadBack(t *testing.T) {
	for _, r := range okRepos() {
		text := impl.RepoWrite(r)
		if text != textOf(r) {
			t.Fatalf("%v is written as %q", r, text)
		}
		back, ok := impl.RepoRead(text)
		if !ok || told(back) != told(r) {
			t.Fatalf("%q is read as %v, %v", text, back, ok)
		}
	}
	if impl.RepoWrite(impl.Repo{}) != "room 0\n" {
		t.Error("no packs")
	}
}

func TestPromise2TextsWithOtherBytes(t *testing.T) {
	checkText(t, ordinary)
	if !isText(ordinary) {
		t.Fatal("the ordinary text is none")
	}
	for i := range len(ordinary) + 1 {
		checkText(t, ordinary[:i])
		checkText(t, ordinary[i:])
		for b := range 256 {
			other := string([]byte{byte(b)})
			checkText(t, ordinary[:i]+other+ordinary[i:])
			if i < len(ordinary) {
				checkText(t, ordinary[:i]+other+ordinary[i+1:])
			}
		}
		if i < len(ordinary) {
			checkText(t, ordinary[:i]+ordinary[i+1:])
		}
	}
}

func TestPromise2TextsWithOtherLines(t *testing.T) {
	lines := strings.SplitAfter(strings.TrimSuffix(ordinary, "\n"), "\n")
	lines[len(lines)-1] += "\n"
	for i := range lines {
		checkText(t, strings.Join(slices.Delete(slices.Clone(lines), i, i+1), ""))
		for j := range lines {
			checkText(t, strings.Join(slices.Insert(slices.Clone(lines), j, lines[i]), ""))
			turned := slices.Clone(lines)
			turned[i], turned[j] = turned[j], turned[i]
			checkText(t, strings.Join(turned, ""))
		}
		bare := slices.Clone(lines)
		bare[i] = strings.TrimSuffix(bare[i], "\n")
		checkText(t, strings.Join(bare, ""))
		bare[i] += "\r\n"
		checkText(t, strings.Join(bare, ""))
	}
}

func TestPromise2TextsOfThrownWords(t *testing.T) {
	d := dice(2)
	read := 0
	number := func() string {
		return d.one("0", "1", "2", "9", "10", "98", "99", "1", "2", "3", "99", "100", "00", "01", "-1", "-0", "+1", "", "1_0", "0x1", "1e1", "99999999999999999999")
	}
	name := func() string {
		return d.one("a", "b", "c", "lib", "zzzzzz", "a", "b", "c", "lib", "zzzzzz", "zzzzzzz", "", "A", "a1", "\u00e4", "\xff")
	}
	row := func() string {
		text := ""
		for range 1 + d.below(4)*d.below(2) {
			text += " " + name() + " " + number() + " " + number()
		}
		return text
	}
	for range 40000 {
		text := d.one("room ", "room ", "room ", "Room ") + number() + "\n"
		for range d.below(3) {
			text += "pack " + name() + " " + number() + " " + number() + "\n"
			for _, word := range []string{"dep", "dep", "pre", "ban"} {
				if d.below(4) == 0 {
					text += word + row() + "\n"
				}
			}
		}
		checkText(t, text)
		if isText(text) {
			read++
		}
	}
	if read < 1000 {
		t.Errorf("only %d texts are ones of packs", read)
	}
}

func TestPromise2WrongTexts(t *testing.T) {
	for _, bad := range []string{"", "\n", "room\n", "room 0", "room 0\n\n", "\nroom 0\n", " room 0\n", "room 0 \n", "room  0\n", "room\t0\n", "room 00\n", "room -0\n", "room +1\n", "room -1\n", "room 1000\n", "room 0 0\n", "room 0\nroom 0\n", "pack a 0 0\n", "pack a 0 0\nroom 0\n", "room 0\ndep a 0 0\n", "room 0\npre a 0 0\n", "room 0\nban a 0 0\n", "room 0\npack\n", "room 0\npack a 0 0 0\n", "room 0\npack a 0\n", "room 0\npack  0 0\n", "room 0\npack a 0 0\ndep\n", "room 0\npack a 0 0\npre\n", "room 0\npack a 0 0\nban\n", "room 0\npack a 0 0\ndep a 0\n", "room 0\npack a 0 0\ndep a 0 0 a\n", "room 0\npack a 0 0\ndep a 1 0\n", "room 0\npack a 0 0\npre a 0 0\npre a 0 0\n", "room 0\npack a 0 0\npre a 0 0\ndep a 0 0\n", "room 0\npack a 0 0\nban a 0 0\npre a 0 0\n", "room 0\npack a 0 0\nban a 0 0\nban a 0 0\n", "room 0\npack a 0 0\ndep a 0 99\ndepa 0 99\n", "room 0\npack a 00 0\n", "room 0\npack a 0 00\n", "room 0\npack a 10 0\npack a 9 0\n", "room 0\x00\n", "room 0\npack \u00e4 0 0\n", "room 0\npack \xff 0 0\n", "\xff\xfe", "room \u0661\n"} {
		if r, ok := impl.RepoRead(bad); ok || len(r.Packs) != 0 || r.Room != 0 {
			t.Errorf("%q is read", bad)
		}
		checkText(t, bad)
	}
}

func TestTextsOfAnySize(t *testing.T) {
	// The longest text that there is, is shorter than RepoMaxText.
	text := textOf(longest())
	if len(text) != 2849 {
		t.Fatal(len(text))
	}
	checkText(t, text)
	if _, ok := impl.RepoRead(text); !ok {
		t.Error("the longest text")
	}
	for _, size := range []int{impl.RepoMaxText - 1, impl.RepoMaxText, impl.RepoMaxText + 1, 1 << 20} {
		checkText(t, text+strings.Repeat("\n", size-len(text)))
		checkText(t, text+strings.Repeat("a", size-len(text)-1)+"\n")
		checkText(t, "room "+strings.Repeat("0", size-6)+"\n")
		checkText(t, strings.Repeat(" ", size))
		checkText(t, (text + strings.Repeat("pack a 0 0\n", size))[:size])
	}
}

func TestPromise3HitsAreWhatFits(t *testing.T) {
	numbers := []int{math.MinInt, -1, 0, 1, 2, 3, 9, 10, 11, 98, 99, 100, math.MaxInt}
	for _, r := range okRepos() {
		for _, name := range []string{"a", "aa", "app", "lib", "zzzzzz", "zzzzzzz", "", "A", "\xff"} {
			for _, low := range numbers {
				for _, high := range numbers {
					var want []int
					for i, p := range r.Packs {
						if p.Name == name && low <= p.Ver && p.Ver <= high {
							want = append(want, i)
						}
					}
					if got := impl.RepoHits(r, req(name, low, high)); !slices.Equal(got, want) {
						t.Fatalf("%v: %s %d %d hits %v, not %v", r, name, low, high, got, want)
					}
				}
			}
		}
	}
}

func TestPromise4OneLessAndOneTwice(t *testing.T) {
	for _, r := range okRepos() {
		if len(r.Packs) == 0 {
			continue
		}
		less := copyRepo(r)
		less.Packs = less.Packs[:len(less.Packs)-1]
		checkGood(t, "one less", less)
		twice := copyRepo(r)
		twice.Packs = append(twice.Packs, copyRepo(r).Packs[0])
		checkBad(t, "the first once more", twice)
		last := copyRepo(r)
		last.Packs = append(last.Packs, copyRepo(r).Packs[len(r.Packs)-1])
		checkBad(t, "the last once more", last)
	}
}

func TestPromise5WhatFitsSomeFitsAll(t *testing.T) {
	for _, r := range okRepos() {
		for _, p := range r.Packs {
			all := impl.RepoHits(r, req(p.Name, 0, impl.RepoMaxVer))
			var each []int
			for ver := range impl.RepoMaxVer + 1 {
				each = append(each, impl.RepoHits(r, req(p.Name, ver, ver))...)
				for _, i := range impl.RepoHits(r, req(p.Name, ver/2, ver)) {
					if !slices.Contains(all, i) {
						t.Fatalf("%v: %d fits some, not all", r, i)
					}
				}
			}
			if !slices.Equal(each, all) {
				t.Fatalf("%v: %s fits %v one by one, %v together", r, p.Name, each, all)
			}
		}
	}
}

func TestPromise6TurnedAboutIsNotOk(t *testing.T) {
	for _, r := range okRepos() {
		for i := range r.Packs {
			for j := range i {
				turned := copyRepo(r)
				turned.Packs[i], turned.Packs[j] = turned.Packs[j], turned.Packs[i]
				checkBad(t, "turned about", turned)
				checkText(t, textOf(turned))
			}
		}
	}
}

func TestPacksAtTheirLimits(t *testing.T) {
	checkGood(t, "RepoMax packs", impl.Repo{Packs: manyPacks(impl.RepoMax)})
	checkBad(t, "one pack more", impl.Repo{Packs: manyPacks(impl.RepoMax + 1)})
	checkText(t, textOf(impl.Repo{Packs: manyPacks(impl.RepoMax + 1)}))
	for _, n := range []int{0, 1, 998, 999, 1000, -1, math.MinInt, math.MaxInt} {
		check := checkGood
		if n < 0 || n > 999 {
			check = checkBad
		}
		check(t, "room "+strconv.Itoa(n), impl.Repo{Room: n})
		check(t, "size "+strconv.Itoa(n), impl.Repo{Packs: []impl.Pack{{Name: "a", Size: n}}})
	}
	for _, n := range []int{0, 1, 98, 99, 100, -1, math.MinInt, math.MaxInt} {
		check := checkGood
		if n < 0 || n > 99 {
			check = checkBad
		}
		check(t, "version "+strconv.Itoa(n), impl.Repo{Packs: []impl.Pack{{Name: "a", Ver: n}}})
	}
	for n := range 7 {
		var rows [][]impl.Req
		for range n {
			rows = append(rows, manyReqs(impl.RepoMaxReqs))
		}
		check := checkGood
		if n > impl.RepoMaxReqs {
			check = checkBad
		}
		check(t, strconv.Itoa(n)+" rows", impl.Repo{Packs: []impl.Pack{{Name: "a", Deps: rows}}})
	}
}

// withReqs is three packs with the same requests, as a row of Deps (the last of some), as Pres, and as Bans.
func withReqs(reqs []impl.Req) []impl.Repo {
	deps := [][]impl.Req{{req("a", 0, 0)}, copyReqs(reqs)}
	return []impl.Repo{
		{Packs: []impl.Pack{{Name: "a", Deps: deps}}},
		{Packs: []impl.Pack{{Name: "a"}, {Name: "b", Pres: copyReqs(reqs)}}},
		{Packs: []impl.Pack{{Name: "a"}, {Name: "b", Bans: copyReqs(reqs)}, {Name: "c"}}},
	}
}

func TestRequestsAtTheirLimits(t *testing.T) {
	numbers := []int{math.MinInt, -1, 0, 1, 50, 98, 99, 100, math.MaxInt}
	for _, low := range numbers {
		for _, high := range numbers {
			check := checkGood
			if low < 0 || low > high || high > 99 {
				check = checkBad
			}
			for _, r := range withReqs([]impl.Req{req("b", 1, 1), req("a", low, high)}) {
				check(t, strconv.Itoa(low)+" "+strconv.Itoa(high), r)
			}
		}
	}
	for n := 1; n < 7; n++ {
		check := checkGood
		if n > impl.RepoMaxReqs {
			check = checkBad
		}
		for _, r := range withReqs(manyReqs(n)) {
			check(t, strconv.Itoa(n)+" requests", r)
		}
	}
	none := withReqs(nil)
	checkBad(t, "a row of none", none[0])
	checkGood(t, "no Pres", none[1])
	checkGood(t, "no Bans", none[2])
	checkBad(t, "only a row of none", impl.Repo{Packs: []impl.Pack{{Name: "a", Deps: [][]impl.Req{{}}}}})
	checkBad(t, "only a nil row", impl.Repo{Packs: []impl.Pack{{Name: "a", Deps: [][]impl.Req{nil}}}})
}

func TestNames(t *testing.T) {
	for _, name := range []string{"a", "z", "az", "aaaaaa", "zzzzzz", "room", "pack", "dep"} {
		checkGood(t, name, impl.Repo{Packs: []impl.Pack{{Name: name}}})
		for _, r := range withReqs([]impl.Req{req(name, 0, 0)}) {
			checkGood(t, name, r)
		}
	}
	bad := []string{"", "aaaaaaa", strings.Repeat("a", 1<<20), "\u00e4", "a\u00e4", "\u0430", "a b", "a\n", "a1", "ab-c"}
	for b := range 256 {
		if b < 'a' || b > 'z' {
			bad = append(bad, string([]byte{byte(b)}), string([]byte{'a', byte(b)}), string([]byte{byte(b), 'a'}))
		}
	}
	for _, name := range bad {
		checkBad(t, name, impl.Repo{Packs: []impl.Pack{{Name: name}}})
		for _, r := range withReqs([]impl.Req{req(name, 0, 0)}) {
			checkBad(t, name, r)
		}
	}
}

func TestOrderOfPacks(t *testing.T) {
	for _, c := range []struct {
		a, b impl.Pack
		ok   bool
	}{
		{impl.Pack{Name: "a", Ver: 9}, impl.Pack{Name: "b", Ver: 1}, true},
		{impl.Pack{Name: "a", Ver: 2}, impl.Pack{Name: "a", Ver: 10}, true},
		{impl.Pack{Name: "a", Ver: 10}, impl.Pack{Name: "a", Ver: 2}, false},
		{impl.Pack{Name: "a"}, impl.Pack{Name: "aa"}, true},
		{impl.Pack{Name: "aa"}, impl.Pack{Name: "a", Ver: 1}, false},
		{impl.Pack{Name: "az"}, impl.Pack{Name: "b"}, true},
		{impl.Pack{Name: "a", Ver: 1, Size: 1}, impl.Pack{Name: "a", Ver: 1, Size: 2}, false},
		{impl.Pack{Name: "a", Ver: 1}, impl.Pack{Name: "a", Ver: 1, Pres: manyReqs(1)}, false},
	} {
		r := impl.Repo{Packs: []impl.Pack{c.a, c.b}}
		if c.ok {
			checkGood(t, "in order", r)
		} else {
			checkBad(t, "out of order", r)
		}
		r.Packs = append(r.Packs, impl.Pack{Name: "zz"})
		if impl.RepoOk(r) != c.ok {
			t.Errorf("with one behind: %v", r)
		}
	}
}

// stain writes into all lists of packs, up to the end of their spare room.
func stain(r impl.Repo) {
	for i := range r.Packs {
		p := &r.Packs[i]
		stainReqs(p.Pres)
		stainReqs(p.Bans)
		for _, row := range p.Deps {
			stainReqs(row)
		}
		for j := range p.Deps[:cap(p.Deps)] {
			p.Deps[:cap(p.Deps)][j] = nil
		}
	}
	for i := range r.Packs[:cap(r.Packs)] {
		r.Packs[:cap(r.Packs)][i] = impl.Pack{Name: "stain"}
	}
}

func stainReqs(list []impl.Req) {
	for i := range list[:cap(list)] {
		list[:cap(list)][i] = req("stain", -1, -1)
	}
}

func TestAnswersAreNewMemory(t *testing.T) {
	for _, r := range okRepos() {
		text := impl.RepoWrite(r)
		one, _ := impl.RepoRead(text)
		two, _ := impl.RepoRead(text)
		stain(one)
		if told(two) != told(r) || impl.RepoWrite(r) != text {
			t.Fatalf("%q: two answers share memory", text)
		}
		hits := impl.RepoHits(r, req("a", 0, 99))
		again := impl.RepoHits(r, req("a", 0, 99))
		for i := range hits[:cap(hits)] {
			hits[:cap(hits)][i] = -1
		}
		if slices.Contains(again, -1) {
			t.Fatal("hits share memory")
		}
	}
}

// reqLists is all lists of requests of packs.
func reqLists(r impl.Repo) [][]impl.Req {
	var lists [][]impl.Req
	for _, p := range r.Packs {
		lists = append(lists, p.Deps...)
		lists = append(lists, p.Pres, p.Bans)
	}
	return lists
}

func TestListsOfOneAnswerShareNone(t *testing.T) {
	r, ok := impl.RepoRead(textOf(longest()))
	if !ok {
		t.Fatal("not read")
	}
	for i, list := range reqLists(r) {
		stainReqs(list)
		for j, other := range reqLists(r) {
			if j > i && other[0].Name == "stain" {
				t.Fatalf("lists %d and %d share memory", i, j)
			}
		}
	}
	r, _ = impl.RepoRead(textOf(longest()))
	for i := range r.Packs {
		deps := r.Packs[i].Deps
		for j := range deps[:cap(deps)] {
			deps[:cap(deps)][j] = nil
		}
		for j := i + 1; j < len(r.Packs); j++ {
			if r.Packs[j].Deps[0] == nil {
				t.Fatalf("rows of %d and %d share memory", i, j)
			}
		}
	}
}

func TestNamesAreNotPartsOfTheText(t *testing.T) {
	text := strings.Clone(ordinary)
	r, _ := impl.RepoRead(text)
	start := uintptr(unsafe.Pointer(unsafe.StringData(text)))
	apart := func(name string) {
		if at := uintptr(unsafe.Pointer(unsafe.StringData(name))); at >= start && at < start+uintptr(len(text)) {
			t.Errorf("%s lies in the text", name)
		}
	}
	for _, p := range r.Packs {
		apart(p.Name)
	}
	for _, list := range reqLists(r) {
		for _, q := range list {
			apart(q.Name)
		}
	}
}

// roomy is the same packs with spare room, stained, behind each list; it tells that room, too, as it is now.
func roomy(r impl.Repo) (impl.Repo, func() string) {
	c := copyRepo(r)
	spare := func(list []impl.Req) []impl.Req {
		return append(list[:len(list):len(list)], req("spare", 7, 7))[:len(list)]
	}
	for i := range c.Packs {
		p := &c.Packs[i]
		p.Pres, p.Bans = spare(p.Pres), spare(p.Bans)
		for j := range p.Deps {
			p.Deps[j] = spare(p.Deps[j])
		}
		p.Deps = append(p.Deps[:len(p.Deps):len(p.Deps)], manyReqs(1))[:len(p.Deps)]
	}
	c.Packs = append(c.Packs[:len(c.Packs):len(c.Packs)], impl.Pack{Name: "spare"})[:len(c.Packs)]
	return c, func() string {
		whole := impl.Repo{Room: c.Room, Packs: slices.Clone(c.Packs[:cap(c.Packs)])}
		for i := range whole.Packs {
			p := &whole.Packs[i]
			p.Pres, p.Bans = p.Pres[:cap(p.Pres)], p.Bans[:cap(p.Bans)]
			p.Deps = slices.Clone(p.Deps[:cap(p.Deps)])
			for j := range p.Deps {
				p.Deps[j] = p.Deps[j][:cap(p.Deps[j])]
			}
		}
		return told(whole)
	}
}

func TestNothingIsWrittenIntoArguments(t *testing.T) {
	list := okRepos()
	list = append(list, impl.Repo{Packs: manyPacks(9)}, impl.Repo{Packs: []impl.Pack{{Name: "b"}, {Name: "a", Deps: [][]impl.Req{{}}}}})
	for _, r := range list {
		c, whole := roomy(r)
		before := whole()
		impl.RepoOk(c)
		impl.RepoWrite(c)
		impl.RepoHits(c, req("a", 0, 99))
		if whole() != before {
			t.Fatalf("%v was changed", r)
		}
		if impl.RepoOk(c) != impl.RepoOk(r) || impl.RepoWrite(c) != impl.RepoWrite(r) {
			t.Fatalf("%v: spare room matters", r)
		}
	}
}

func TestNothingIsKept(t *testing.T) {
	for range 2 {
		for _, r := range okRepos()[:20] {
			impl.RepoRead("room 7\npack a 1 1\n")
			impl.RepoRead("room 7\npack a 1 1")
			if back, ok := impl.RepoRead(impl.RepoWrite(r)); !ok || told(back) != told(r) {
				t.Fatalf("%v", back)
			}
		}
	}
}
