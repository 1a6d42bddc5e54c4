package loss

import "turnpike/api"

// numberGap: so far below the greatest number acknowledged a packet is lost at any time.
const numberGap = 3

// patience: how long a packet may be out when a later one has arrived.
func (r *rtt) patience() int { return max(1, 9*max(r.latest, r.smooth)/8) }

// findLost: what is lost of a space at a time; the window and the space's loss time follow from it.
func (l *Loss) findLost(s *space, now int) []int {
	patience := l.rtt.patience()
	lost := s.take(func(p packet) bool {
		return p.number <= s.acked-numberGap || p.number < s.acked && p.at <= now-patience
	})
	l.shrink(lost, now)
	s.lossTime = none
	if len(s.out) > 0 && s.out[0].number < s.acked {
		s.lossTime = s.out[0].at + patience
	}
	return numbers(lost)
}

// shrink: the window, by packets that are lost, once for all that were under way at that time.
func (l *Loss) shrink(lost []packet, now int) {
	latest := none
	for _, p := range lost {
		if p.elicits {
			latest = p.at
		}
	}
	if latest <= l.recovery {
		return
	}
	l.recovery = now
	l.threshold = l.window / 2
	l.window = max(l.threshold, leastWindow)
}

// probeTime: when a space is to be probed; none, if nothing is out there that elicits.
func (l *Loss) probeTime(place int) int {
	s := &l.spaces[place]
	if !elicits(s.out) {
		return none
	}
	wait := l.rtt.smooth + max(1, 4*l.rtt.vary)
	if place == lastSpace {
		wait += l.most
	}
	return s.lastElicited + wait<<l.probes
}

// next: the time that comes next, its space, the first of several, and whether it is for a probe. The space is none, if there is no time.
func (l *Loss) next() (place, at int, probe bool) {
	var losses, probes [spaceCount]int
	for i := range l.spaces {
		losses[i], probes[i] = l.spaces[i].lossTime, l.probeTime(i)
	}
	if place = soonest(losses); place != none {
		return place, losses[place], false
	}
	if place = soonest(probes); place != none {
		return place, probes[place], true
	}
	return none, 0, false
}

// soonest: the place of the least time, the first of several; none, if there is no time.
func soonest(times [spaceCount]int) int {
	place := none
	for i, at := range times {
		if at != none && (place == none || at < times[place]) {
			place = i
		}
	}
	return place
}

// Timer: when Fire has something to do.
func (l *Loss) Timer() (at int, ok bool) {
	place, at, _ := l.next()
	return at, place != none
}

// Fire: what a time brings.
func (l *Loss) Fire(now int) (space int, lost []int, probe bool, e api.Errno) {
	if e := l.checkTime(now); e != api.OK {
		return 0, nil, false, e
	}
	l.now = now
	place, at, probe := l.next()
	switch {
	case place == none || at > now:
		return none, nil, false, api.OK
	case probe:
		l.probes = min(l.probes+1, mostProbes)
		return place, nil, true, api.OK
	}
	return place, l.findLost(&l.spaces[place], now), false, api.OK
}
