package pool

import (
	"slices"

	"turnpike/api"
)

// Acquire: a link for a ticket.
func (p *Pool) Acquire(ticket, now int) (Grant, api.Errno) {
	if slices.Contains(p.queue, ticket) {
		return Grant{}, api.ErrTicket
	}
	if !timely(now) {
		return Grant{}, api.ErrClock
	}
	if len(p.queue) == 0 { // else somebody would be taken ahead of those who wait
		if g, ok := p.take(now); ok {
			return g, api.OK
		}
	}
	if !p.someUp(now) {
		return Grant{Kind: None}, api.OK
	}
	if len(p.queue) >= p.Queue {
		return Grant{Kind: Full}, api.OK
	}
	p.queue = append(p.queue, ticket)
	return Grant{Kind: Wait}, api.OK
}

// Serve: a ticket that waits gets a link.
func (p *Pool) Serve(now int) (ticket int, g Grant, ok bool) {
	if len(p.queue) == 0 || !timely(now) {
		return 0, Grant{}, false
	}
	g, ok = p.take(now)
	if !ok && p.someUp(now) {
		return 0, Grant{}, false
	}
	ticket = p.queue[0]
	p.queue = slices.Delete(p.queue, 0, 1)
	return ticket, g, true
}

// Cancel: a ticket waits no more.
func (p *Pool) Cancel(ticket int) api.Errno {
	at := slices.Index(p.queue, ticket)
	if at < 0 {
		return api.ErrTicket
	}
	p.queue = slices.Delete(p.queue, at, at+1)
	return api.OK
}

// take: a link to the first server in turn that has one to give.
func (p *Pool) take(now int) (Grant, bool) {
	for i := range p.Backends {
		backend := (p.next + i) % p.Backends
		if !p.Up(backend, now) {
			continue
		}
		if g, ok := p.takeFrom(backend); ok {
			p.next = (backend + 1) % p.Backends
			return g, true
		}
	}
	return Grant{}, false
}

// takeFrom: a link to one server, an idle one or else a new one.
func (p *Pool) takeFrom(backend int) (Grant, bool) {
	links, idle := p.Count(backend)
	if idle > 0 {
		number := p.idleLast(backend)
		p.links[number].state = stateBusy
		return Grant{Kind: Reuse, Link: number, Backend: backend}, true
	}
	if links >= p.Links {
		return Grant{}, false
	}
	p.last++
	p.links[p.last] = &link{backend: backend, state: stateDialled}
	return Grant{Kind: Dial, Link: p.last, Backend: backend}, true
}
