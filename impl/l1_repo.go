// Package impl: from what is there to what shall be, with nothing broken on the way.
package impl

import (
	"strconv"
	"strings"
)

// Limits of packs.
const (
	RepoMax     = 8
	RepoMaxVer  = 99
	RepoMaxSize = 999
	RepoMaxReqs = 4
	RepoMaxText = 3000
)

// nameMax is how many bytes a name has at most.
const nameMax = 6

// Req is what fits: a pack of a name, of a version from Low to High.
type Req struct {
	Name string
	Low  int
	High int
}

// Pack is a version of something, how much room it needs, what must be there with it (of each row one), what must be there ahead of it, and what must not be there.
type Pack struct {
	Name string
	Ver  int
	Size int
	Deps [][]Req
	Pres []Req
	Bans []Req
}

// Repo is all packs, and how much room there is.
type Repo struct {
	Packs []Pack
	Room  int
}

// RepoOk says whether packs are ok.
func RepoOk(r Repo) bool {
	return len(r.Packs) <= RepoMax && within(r.Room, 0, RepoMaxSize) && allAre(r.Packs, packOk) && packsAscend(r.Packs)
}

// RepoHits is which packs fit.
func RepoHits(r Repo, q Req) []int {
	if !RepoOk(r) {
		return nil
	}
	var places []int
	for i := search(r.Packs, 0, q.fits); i < len(r.Packs); i = search(r.Packs, i+1, q.fits) {
		places = append(places, i)
	}
	return places
}

// RepoWrite writes packs.
func RepoWrite(r Repo) string {
	if !RepoOk(r) {
		return ""
	}
	text := "room " + strconv.Itoa(r.Room) + "\n"
	for _, p := range r.Packs {
		text += packText(p)
	}
	if len(text) > RepoMaxText {
		return ""
	}
	return text
}

// RepoRead reads packs.
func RepoRead(text string) (Repo, bool) {
	if len(text) > RepoMaxText {
		return Repo{}, false
	}
	r, ok := parseRepo(text)
	// Parsing takes more than RepoWrite writes (other orders of lines, needless zeros): that the text is just theirs is asked here, once for all.
	if !ok || RepoWrite(r) != text {
		return Repo{}, false
	}
	return r, true
}

// search is the first place, from one on, of what is wanted; the list's length, if there is none.
func search[T any](list []T, place int, wanted func(T) bool) int {
	for place < len(list) && !wanted(list[place]) {
		place++
	}
	return place
}

// allAre says whether all of a list are wanted.
func allAre[T any](list []T, wanted func(T) bool) bool {
	return search(list, 0, func(one T) bool { return !wanted(one) }) == len(list)
}

// within says whether a number is in low..high.
func within(n int, low int, high int) bool {
	return low <= n && n <= high
}

// fits says whether a pack fits a request.
func (q Req) fits(p Pack) bool {
	return p.Name == q.Name && within(p.Ver, q.Low, q.High)
}

// nameOk says whether a text is a name.
func nameOk(name string) bool {
	if !within(len(name), 1, nameMax) {
		return false
	}
	for _, letter := range name {
		if letter < 'a' || letter > 'z' {
			return false
		}
	}
	return true
}

// reqOk says whether a request may stand in a pack.
func reqOk(q Req) bool {
	return nameOk(q.Name) && within(q.High, 0, RepoMaxVer) && within(q.Low, 0, q.High)
}

// reqsOk says whether requests, also none, may stand in a pack together.
func reqsOk(reqs []Req) bool {
	return len(reqs) <= RepoMaxReqs && allAre(reqs, reqOk)
}

// rowOk says whether requests may be a row of Deps: nothing could ever fit a row of none.
func rowOk(row []Req) bool {
	return len(row) > 0 && reqsOk(row)
}

// packOk says whether a pack is ok by itself.
func packOk(p Pack) bool {
	return nameOk(p.Name) && within(p.Ver, 0, RepoMaxVer) && within(p.Size, 0, RepoMaxSize) &&
		len(p.Deps) <= RepoMaxReqs && allAre(p.Deps, rowOk) && reqsOk(p.Pres) && reqsOk(p.Bans)
}

// packAhead says whether a stands ahead of b.
func packAhead(a Pack, b Pack) bool {
	return a.Name < b.Name || a.Name == b.Name && a.Ver < b.Ver
}

// packsAscend says whether packs stand in their order, each once.
func packsAscend(packs []Pack) bool {
	for i := 1; i < len(packs); i++ {
		if !packAhead(packs[i-1], packs[i]) {
			return false
		}
	}
	return true
}

// packText is all lines of a pack.
func packText(p Pack) string {
	text := "pack " + p.Name + " " + strconv.Itoa(p.Ver) + " " + strconv.Itoa(p.Size) + "\n"
	for _, row := range p.Deps {
		text += "dep" + reqsText(row) + "\n"
	}
	if len(p.Pres) > 0 {
		text += "pre" + reqsText(p.Pres) + "\n"
	}
	if len(p.Bans) > 0 {
		text += "ban" + reqsText(p.Bans) + "\n"
	}
	return text
}

// reqsText is requests as they stand in a line, a space ahead of each.
func reqsText(reqs []Req) string {
	text := ""
	for _, q := range reqs {
		text += " " + q.Name + " " + strconv.Itoa(q.Low) + " " + strconv.Itoa(q.High)
	}
	return text
}

// lineCursor goes over the lines of a text.
type lineCursor struct {
	rest string
}

// more says whether anything is left.
func (c *lineCursor) more() bool {
	return c.rest != ""
}

// next is the words of the next line, at least one, maybe empty; false, if no newline ends it.
func (c *lineCursor) next() ([]string, bool) {
	line, rest, ended := strings.Cut(c.rest, "\n")
	c.rest = rest
	return strings.Split(line, " "), ended
}

// parseRepo is the packs that lines tell, ok or not.
func parseRepo(text string) (Repo, bool) {
	c := lineCursor{rest: text}
	words, ended := c.next()
	if !ended || len(words) != 2 {
		return Repo{}, false
	}
	room, err := strconv.Atoi(words[1])
	if err != nil {
		return Repo{}, false
	}
	r := Repo{Room: room}
	for c.more() {
		words, ended := c.next()
		if !ended || !addLine(&r, words) {
			return Repo{}, false
		}
	}
	return r, true
}

// addLine adds what a line behind the first tells: a pack, or something of the last one.
func addLine(r *Repo, words []string) bool {
	if words[0] == "pack" {
		p, ok := parsePack(words)
		r.Packs = append(r.Packs, p)
		return ok
	}
	if len(r.Packs) == 0 {
		return false
	}
	last := &r.Packs[len(r.Packs)-1]
	reqs, ok := parseReqs(words[1:])
	switch words[0] {
	case "dep":
		last.Deps = append(last.Deps, reqs)
	case "pre":
		last.Pres = reqs
	case "ban":
		last.Bans = reqs
	default:
		return false
	}
	return ok
}

// parsePack is the pack of a line, nothing asked for yet. The name is cloned, as an answer shares nothing with the text.
func parsePack(words []string) (Pack, bool) {
	if len(words) != 4 {
		return Pack{}, false
	}
	ver, errVer := strconv.Atoi(words[2])
	size, errSize := strconv.Atoi(words[3])
	return Pack{Name: strings.Clone(words[1]), Ver: ver, Size: size}, errVer == nil && errSize == nil
}

// parseReqs is the requests of a line, three words each. Names are cloned, as an answer shares nothing with the text.
func parseReqs(words []string) ([]Req, bool) {
	var reqs []Req
	for ; len(words) >= 3; words = words[3:] {
		low, errLow := strconv.Atoi(words[1])
		high, errHigh := strconv.Atoi(words[2])
		if errLow != nil || errHigh != nil {
			return nil, false
		}
		reqs = append(reqs, Req{Name: strings.Clone(words[0]), Low: low, High: high})
	}
	return reqs, len(words) == 0
}
