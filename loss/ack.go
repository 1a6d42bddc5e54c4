package loss

import "turnpike/api"

// Ack: packets have arrived.
func (l *Loss) Ack(space int, spans []api.Span, delay, now int) (acked, lost []int, e api.Errno) {
	if e := l.check(space, now); e != api.OK {
		return nil, nil, e
	}
	s := &l.spaces[space]
	if !rightSpans(spans) || !holds(s.sent, spans[len(spans)-1].To) {
		return nil, nil, api.ErrPacket
	}
	if delay < 0 || delay > api.MaxNum {
		return nil, nil, api.ErrRange
	}
	l.now = now
	arrived := s.take(func(p packet) bool { return holds(spans, p.number) })
	if len(arrived) == 0 {
		return nil, nil, api.OK
	}
	last := arrived[len(arrived)-1]
	if last.number == spans[len(spans)-1].To && elicits(arrived) {
		l.rtt.sample(now-last.at, l.cut(space, delay))
	}
	l.grow(arrived)
	l.probes = 0
	s.acked = max(s.acked, last.number)
	return numbers(arrived), l.findLost(s, now), api.OK
}

// rightSpans: whether spans are as an ack has them.
func rightSpans(spans []api.Span) bool {
	if len(spans) < 1 || len(spans) > api.MaxSpans {
		return false
	}
	least := 0
	for _, span := range spans {
		if span.From < least || span.To < span.From || span.To > api.MaxNum {
			return false
		}
		least = span.To + 2 // at least one number is missing between two
	}
	return true
}

// cut: how long the other side says that it waited with the acknowledgement, as far as that is believed.
func (l *Loss) cut(space, delay int) int {
	if space != lastSpace {
		return 0
	}
	return min(delay, l.most)
}

// grow: the window, by packets that have arrived.
func (l *Loss) grow(arrived []packet) {
	for _, p := range arrived {
		switch {
		case !p.elicits || p.at <= l.recovery:
		case l.window < l.threshold:
			l.window += p.size
		default:
			l.window += windowStep * p.size / l.window
		}
	}
}

// rtt: how long packets and their acknowledgements are under way, together.
type rtt struct {
	sampled                     bool
	latest, least, smooth, vary int
}

// sample: it was so long, of which the other side waited cut.
func (r *rtt) sample(latest, cut int) {
	r.latest = latest
	if !r.sampled {
		r.sampled = true
		r.least, r.smooth, r.vary = latest, latest, latest/2
		return
	}
	r.least = min(r.least, latest)
	x := latest
	if latest >= r.least+cut {
		x -= cut
	}
	r.vary = (3*r.vary + max(r.smooth-x, x-r.smooth)) / 4
	r.smooth = (7*r.smooth + x) / 8
}
