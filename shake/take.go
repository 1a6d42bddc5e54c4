package shake

import (
	"bytes"
	"slices"

	"turnpike/api"
)

// takeClientHello: the server chooses, and says all that it has to say.
func (s *Shake) takeClientHello(message []byte) api.Errno {
	hello, ok := readClientHello(bodyOf(message))
	if !ok {
		return api.ErrMessage
	}
	chosen := slices.IndexFunc(s.own.Protos, func(p string) bool { return slices.Contains(hello.protos, p) })
	if chosen < 0 {
		return api.ErrAlpn
	}
	s.proto, s.peer = s.own.Protos[chosen], hello.params
	s.hear(message)
	s.say(levelInitial, serverHello(s.own))
	s.agree(hello.public)
	s.say(levelHandshake, choice(s.proto, s.own.Params))
	s.say(levelHandshake, finished(s.proof(s.hand.Server)))
	s.conclude()
	return api.OK
}

// takeServerHello: from now on the client knows the handshake's secrets.
func (s *Shake) takeServerHello(message []byte) api.Errno {
	public, ok := readServerHello(bodyOf(message))
	if !ok {
		return api.ErrMessage
	}
	s.hear(message)
	s.agree(public)
	return api.OK
}

// takeChoice: the client holds the server to what it offered.
func (s *Shake) takeChoice(message []byte) api.Errno {
	proto, params, ok := readChoice(bodyOf(message))
	if !ok {
		return api.ErrMessage
	}
	if !slices.Contains(s.own.Protos, proto) {
		return api.ErrAlpn
	}
	s.proto, s.peer = proto, params
	s.hear(message)
	return api.OK
}

// takeServerFinished: the client says its own, and is done.
func (s *Shake) takeServerFinished(message []byte) api.Errno {
	if e := s.checkFinished(message, s.hand.Server); e != api.OK {
		return e
	}
	s.hear(message)
	s.conclude()
	s.say(levelHandshake, finished(s.proof(s.hand.Client)))
	return api.OK
}

// takeClientFinished: the server has nothing to add, and is done.
func (s *Shake) takeClientFinished(message []byte) api.Errno {
	return s.checkFinished(message, s.hand.Client)
}

// checkFinished: whether a finished is that of a secret over what was said ahead of it.
func (s *Shake) checkFinished(message, secret []byte) api.Errno {
	body := bodyOf(message)
	if len(body) != finishedSize {
		return api.ErrMessage
	}
	if !bytes.Equal(body, s.proof(secret)) {
		return api.ErrFinished
	}
	return api.OK
}

// hear takes up a message of the other side, for the digests of what was said.
func (s *Shake) hear(message []byte) {
	s.said = append(s.said, message...)
}
