package shake

import "turnpike/api"

// wait: a message that the other side has yet to say, and what is done with it.
type wait struct {
	kind  byte
	level int
	take  func(s *Shake, message []byte) api.Errno
}

// waitsOf: all that a side waits for, in order.
func waitsOf(server bool) []wait {
	if server {
		return []wait{
			{kindClientHello, levelInitial, (*Shake).takeClientHello},
			{kindFinished, levelHandshake, (*Shake).takeClientFinished},
		}
	}
	return []wait{
		{kindServerHello, levelInitial, (*Shake).takeServerHello},
		{kindChoice, levelHandshake, (*Shake).takeChoice},
		{kindFinished, levelHandshake, (*Shake).takeServerFinished},
	}
}

// Feed: what the other side said.
func (s *Shake) Feed(level int, data []byte) api.Errno {
	if level != levelInitial && level != levelHandshake {
		return api.ErrLevel
	}
	if s.failed {
		return api.ErrState
	}
	e := s.takeBytes(level, data)
	if e != api.OK {
		s.failed, s.kept = true, nil
	}
	return e
}

// takeBytes goes through bytes message by message, and keeps no more of them than the one that is waited for may have.
func (s *Shake) takeBytes(level int, data []byte) api.Errno {
	for len(data) > 0 {
		if s.Done() {
			return api.ErrState
		}
		if level != s.waits[0].level {
			return api.ErrLevel
		}
		n := min(len(data), s.missing())
		s.kept = append(s.kept, data[:n]...)
		data = data[n:]
		if e := s.takeKept(); e != api.OK {
			return e
		}
	}
	return api.OK
}

// missing: how many bytes the head has yet to get or, once it is there, the message.
func (s *Shake) missing() int {
	if len(s.kept) < headSize {
		return headSize - len(s.kept)
	}
	return headSize + bodySize(s.kept) - len(s.kept)
}

// takeKept takes the kept bytes as a message, if they are one.
func (s *Shake) takeKept() api.Errno {
	if len(s.kept) == headSize {
		if e := s.checkHead(); e != api.OK {
			return e
		}
	}
	if s.missing() > 0 {
		return api.OK
	}
	if e := s.waits[0].take(s, s.kept); e != api.OK {
		return e
	}
	s.waits, s.kept = s.waits[1:], nil
	if s.Done() {
		s.said = nil // no digest of it is asked for any more
	}
	return api.OK
}

// checkHead: whether the message that is waited for may begin so.
func (s *Shake) checkHead() api.Errno {
	if bodySize(s.kept) > longestBody {
		return api.ErrHuge
	}
	if s.kept[0] != s.waits[0].kind {
		return api.ErrMessage
	}
	return api.OK
}
