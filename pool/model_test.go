package pool_test

import (
	"slices"

	"turnpike/api"
	"turnpike/pool"
)

// happening is a line in a model's book.
type happening struct {
	what         string // dial, open, reuse, idle, gone; failed, well, down
	link, server int
	at           int
}

// model is a pool by the chapter's words: it keeps a book of all that happened, and reads in it what it is asked for.
type model struct {
	pool.Config
	book    []happening
	dialled int
	waiting []int
}

func inTime(now int) bool { return now >= 0 && now <= last }

func (m *model) write(what string, link, server, at int) {
	m.book = append(m.book, happening{what, link, server, at})
}

// latest: the last line of which something holds, and the place of it; -1, if there is none.
func (m *model) latest(holds func(happening) bool) (happening, int) {
	for i := len(m.book) - 1; i >= 0; i-- {
		if holds(m.book[i]) {
			return m.book[i], i
		}
	}
	return happening{}, -1
}

// doing: what a link is doing, and the line that says so.
func (m *model) doing(link int) (string, happening) {
	h, at := m.latest(func(h happening) bool {
		return h.link == link && slices.Contains([]string{"dial", "open", "reuse", "idle", "gone"}, h.what)
	})
	if at < 0 {
		return "never was", h
	}
	switch h.what {
	case "dial":
		return "dialled", h
	case "open", "reuse":
		return "busy", h
	}
	return h.what, h
}

// links to a server, of those the idle ones, and that among them which became idle last (0, if none is).
func (m *model) links(server int) (links, idle, lastIdle int) {
	latest := -1
	for link := 1; link <= m.dialled; link++ {
		what, h := m.doing(link)
		if what == "gone" || h.server != server {
			continue
		}
		links++
		if what != "idle" {
			continue
		}
		idle++
		if at := m.placeOf(h); at > latest {
			latest, lastIdle = at, link
		}
	}
	return links, idle, lastIdle
}

// placeOf: where a line stands last.
func (m *model) placeOf(line happening) int {
	_, at := m.latest(func(h happening) bool { return h == line })
	return at
}

// Up.
func (m *model) Up(server, now int) bool {
	if server < 0 || server >= m.Backends {
		return false
	}
	h, at := m.latest(func(h happening) bool { return h.what == "down" && h.server == server })
	return at < 0 || now >= h.at+m.Down
}

func (m *model) someUp(now int) bool {
	for server := 0; server < m.Backends; server++ {
		if m.Up(server, now) {
			return true
		}
	}
	return false
}

// could: what could be taken now, in turn.
func (m *model) could(now int) (pool.Grant, bool) {
	first := 0
	if h, at := m.latest(func(h happening) bool { return h.what == "dial" || h.what == "reuse" }); at >= 0 {
		first = h.server + 1
	}
	for server := first; server < first+m.Backends; server++ {
		s := server % m.Backends
		links, idle, lastIdle := m.links(s)
		if !m.Up(s, now) {
			continue
		}
		if idle > 0 {
			return pool.Grant{Kind: 2, Link: lastIdle, Backend: s}, true
		}
		if links < m.Links {
			return pool.Grant{Kind: 1, Link: m.dialled + 1, Backend: s}, true
		}
	}
	return pool.Grant{}, false
}

// grant: it is taken.
func (m *model) grant(g pool.Grant) {
	if g.Kind == 1 {
		m.dialled++
		m.write("dial", g.Link, g.Backend, 0)
	} else {
		m.write("reuse", g.Link, g.Backend, 0)
	}
}

// Acquire.
func (m *model) Acquire(ticket, now int) (pool.Grant, api.Errno) {
	if slices.Contains(m.waiting, ticket) {
		return pool.Grant{}, 212
	}
	if !inTime(now) {
		return pool.Grant{}, 112
	}
	g, some := m.could(now)
	if some && len(m.waiting) == 0 {
		m.grant(g)
		return g, 0
	}
	if !m.someUp(now) {
		return none, 0
	}
	if len(m.waiting) < m.Queue {
		m.waiting = append(m.waiting, ticket)
		return wait, 0
	}
	return full, 0
}

// Serve.
func (m *model) Serve(now int) (int, pool.Grant, bool) {
	if !inTime(now) || len(m.waiting) == 0 {
		return 0, pool.Grant{}, false
	}
	ticket := m.waiting[0]
	if g, some := m.could(now); some {
		m.waiting = m.waiting[1:]
		m.grant(g)
		return ticket, g, true
	}
	if !m.someUp(now) {
		m.waiting = m.waiting[1:]
		return ticket, none, true
	}
	return 0, pool.Grant{}, false
}

// Cancel.
func (m *model) Cancel(ticket int) api.Errno {
	for i, w := range m.waiting {
		if w == ticket {
			m.waiting = slices.Concat(m.waiting[:i], m.waiting[i+1:])
			return 0
		}
	}
	return 212
}

// Opened.
func (m *model) Opened(link int) api.Errno {
	what, h := m.doing(link)
	if what != "dialled" {
		return 211
	}
	m.write("open", link, h.server, 0)
	return 0
}

// Failed.
func (m *model) Failed(link, now int) api.Errno {
	what, h := m.doing(link)
	if what != "dialled" && what != "busy" {
		return 211
	}
	if !inTime(now) {
		return 112
	}
	m.write("gone", link, h.server, now)
	m.write("failed", link, h.server, now)
	row := 0
	m.latest(func(line happening) bool {
		if line.server != h.server {
			return false
		}
		if line.what == "failed" {
			row++
		}
		return line.what == "well" || line.what == "down" // the row began behind it
	})
	if row == m.Fails {
		m.write("down", 0, h.server, now)
	}
	return 0
}

// Release.
func (m *model) Release(link int, again bool, now int) api.Errno {
	what, h := m.doing(link)
	if what != "busy" {
		return 211
	}
	if !inTime(now) {
		return 112
	}
	m.write("well", link, h.server, now)
	if again {
		m.write("idle", link, h.server, now)
	} else {
		m.write("gone", link, h.server, now)
	}
	return 0
}

// Lost.
func (m *model) Lost(link int) api.Errno {
	what, h := m.doing(link)
	if what == "gone" || what == "never was" {
		return 211
	}
	m.write("gone", link, h.server, 0)
	return 0
}

// due: the links that Expire would tell.
func (m *model) due(now int) []int {
	var due []int
	for link := 1; link <= m.dialled && inTime(now); link++ {
		if what, h := m.doing(link); what == "idle" && now >= h.at+m.Idle {
			due = append(due, link)
		}
	}
	return due
}

// Expire.
func (m *model) Expire(now int) []int {
	due := m.due(now)
	for _, link := range due {
		_, h := m.doing(link)
		m.write("gone", link, h.server, now)
	}
	return due
}

// Timer.
func (m *model) Timer() (int, bool) {
	var times []int
	for link := 1; link <= m.dialled; link++ {
		if what, h := m.doing(link); what == "idle" {
			times = append(times, h.at+m.Idle)
		}
	}
	if len(times) == 0 {
		return 0, false
	}
	return slices.Min(times), true
}

// Count.
func (m *model) Count(server int) (int, int) {
	links, idle, _ := m.links(server)
	return links, idle
}
