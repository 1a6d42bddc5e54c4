package pool

import (
	"slices"

	"turnpike/api"
)

// What a link is doing.
const (
	stateGone = iota
	stateDialled
	stateBusy
	stateIdle
)

// link: a connection to a server.
type link struct {
	backend, state int
	since          int // the time at which it became idle
	turn           int // its place among all that became idle, since several may do so at one time
}

// state: what a link is doing.
func (p *Pool) state(number int) int {
	if l := p.links[number]; l != nil {
		return l.state
	}
	return stateGone
}

// Opened: a link stands.
func (p *Pool) Opened(link int) api.Errno {
	if p.state(link) != stateDialled {
		return api.ErrLink
	}
	p.links[link].state = stateBusy
	return api.OK
}

// Failed: a link is gone, and its server has failed.
func (p *Pool) Failed(link, now int) api.Errno {
	if state := p.state(link); state != stateDialled && state != stateBusy {
		return api.ErrLink
	}
	if !timely(now) {
		return api.ErrClock
	}
	p.servers[p.links[link].backend].failed(p.Fails, p.Down, now)
	delete(p.links, link)
	return api.OK
}

// Release: a link is not needed any more.
func (p *Pool) Release(link int, again bool, now int) api.Errno {
	if p.state(link) != stateBusy {
		return api.ErrLink
	}
	if !timely(now) {
		return api.ErrClock
	}
	l := p.links[link]
	p.servers[l.backend].row = 0
	if !again {
		delete(p.links, link)
		return api.OK
	}
	p.idled++
	l.state, l.since, l.turn = stateIdle, now, p.idled
	return api.OK
}

// Lost: a link is gone.
func (p *Pool) Lost(link int) api.Errno {
	if p.state(link) == stateGone {
		return api.ErrLink
	}
	delete(p.links, link)
	return api.OK
}

// Expire: links that have been idle for too long.
func (p *Pool) Expire(now int) []int {
	if !timely(now) {
		return nil
	}
	var over []int
	for number, l := range p.links {
		if l.state == stateIdle && now-l.since >= p.Idle {
			over = append(over, number)
			delete(p.links, number)
		}
	}
	slices.Sort(over)
	return over
}

// Timer: when Expire has something to tell.
func (p *Pool) Timer() (at int, ok bool) {
	for _, l := range p.links {
		if l.state == stateIdle && (!ok || l.since+p.Idle < at) {
			at, ok = l.since+p.Idle, true
		}
	}
	return at, ok
}

// Count: a server's links.
func (p *Pool) Count(backend int) (links, idle int) {
	for _, l := range p.links {
		if l.backend != backend {
			continue
		}
		links++
		if l.state == stateIdle {
			idle++
		}
	}
	return links, idle
}

// idleLast: of a server's idle links the one that became so last.
func (p *Pool) idleLast(backend int) int {
	last := 0
	for number, l := range p.links {
		if l.backend == backend && l.state == stateIdle && (last == 0 || l.turn > p.links[last].turn) {
			last = number
		}
	}
	return last
}
