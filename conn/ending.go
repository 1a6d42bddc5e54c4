package conn

import "turnpike/api"

// Codes by which the transport closes, as in RFC 9000, section 20.
const (
	codeFlow      = 3
	codeStreams   = 4
	codeStream    = 5
	codeFinal     = 6
	codeFrame     = 7
	codeParams    = 8
	codeProtocol  = 10
	codeBuffer    = 13
	codeHandshake = 0x128
)

// farewell: so many ticks a side that closes answers still.
const farewell = 3000

// byTime: the code of an end that nobody told.
const byTime = -1

// ending: how this side closes.
type ending struct {
	code   int
	byUser bool
	until  int
	due    bool // it is to be told
}

// Close: the end.
func (c *Conn) Close(code int) {
	if code < 0 || code > api.MaxNum {
		code = 0
	}
	c.close(code, true)
}

// fail: the other side has done what it may not.
func (c *Conn) fail(code int) { c.close(code, false) }

// close: once closed, it stays so.
func (c *Conn) close(code int, byUser bool) {
	if c.state >= Closing {
		return
	}
	c.state = Closing
	c.ending = ending{code: code, byUser: byUser, until: c.now + farewell, due: true}
	c.tell(Ended, 0, code)
}

// vanish: nothing is to be said or read any more, and so nothing is kept.
func (c *Conn) vanish() {
	c.state = Gone
	c.spaces = [spaceCount]space{}
	c.streams, c.live = nil, nil
	c.shake, c.loss = nil, nil
}

// pass: time passes. What is no time, or lies back, counts as the greatest so far.
func (c *Conn) pass(now int) {
	if now <= greatestTime {
		c.now = max(c.now, now)
	}
	if c.state == Closing && c.now >= c.ending.until {
		c.vanish()
	}
}

// Timer: when Tick has something to do.
func (c *Conn) Timer() (at int, ok bool) {
	at = c.due()
	if at > greatestTime {
		return 0, false // it will never be that time
	}
	return at, true
}

// never: a time that does not come.
const never = greatestTime + 1

// due: the next time at which something happens of itself.
func (c *Conn) due() int {
	switch c.state {
	case Gone:
		return never
	case Closing:
		return c.ending.until
	}
	at := never
	if c.idle > 0 {
		at = c.heard + c.idle
	}
	if l, ok := c.loss.Timer(); ok && !c.probing() {
		at = min(at, l)
	}
	return at
}

// probing: whether a probe is to go. Then Send has something to do, and layer 11's time has been taken up.
func (c *Conn) probing() bool {
	return c.spaces[initial].probe || c.spaces[handshake].probe || c.spaces[application].probe
}

// Tick: time passes.
func (c *Conn) Tick(now int) {
	c.pass(now)
	if c.state >= Closing {
		return
	}
	if c.idle > 0 && c.now-c.heard >= c.idle {
		c.tell(Ended, 0, byTime)
		c.vanish()
		return
	}
	for !c.probing() {
		place, lost, probe, _ := c.loss.Fire(c.now)
		if place == none {
			return
		}
		if probe {
			c.spaces[place].ask()
		}
		c.lose(place, lost)
	}
}
