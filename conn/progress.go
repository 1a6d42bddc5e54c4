package conn

import (
	"turnpike/api"
	"turnpike/params"
)

// progress: what follows of where the handshake stands.
func (c *Conn) progress() {
	for _, f := range c.shake.Out() {
		c.spaces[f.Level].say.Write(f.Data)
	}
	if hand, ok := c.shake.Hand(); ok && !c.spaces[handshake].begun() {
		c.openLong(handshake, hand.Client, hand.Server)
	}
	if c.shake.Proto() != "" && !c.settled {
		c.settle()
	}
	if c.shake.Done() && c.state == Shaking {
		c.begin()
	}
}

// settle: the other side's params are known.
func (c *Conn) settle() {
	p, _, e := params.Decode(c.shake.Peer(), !c.server)
	if e != api.OK {
		c.fail(codeParams)
		return
	}
	c.settled = true
	c.exponent = p.Exponent
	if p.Idle > 0 && (c.idle == 0 || p.Idle < c.idle) {
		c.idle = p.Idle
	}
	c.out.limit = p.MaxData
	c.limits = limits{ours: p.BidiRemote, theirs: p.BidiLocal, one: p.Uni}
	c.may = [2]int{p.StreamsBidi, p.StreamsUni}
}

// begin: the handshake is done.
func (c *Conn) begin() {
	c.state = Open
	c.proto = c.shake.Proto()
	c.tell(Ready, 0, 0)
	app, _ := c.shake.App()
	c.openShort(app.Client, app.Server)
	c.confirm.due = c.server
}
