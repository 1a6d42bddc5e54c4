package pool

// server: how a server has done.
type server struct {
	row   int  // failures since it did well, or was put down
	down  bool // it has been put down, and is so until the time behind
	until int
}

// failed: the server has failed once more.
func (s *server) failed(fails, down, now int) {
	s.row++
	if s.row < fails {
		return
	}
	*s = server{down: true, until: now + down}
}

// up: whether the server is up at a time.
func (s *server) up(now int) bool { return !s.down || now >= s.until }

// Up: is a server up?
func (p *Pool) Up(backend, now int) bool {
	return within(backend, 0, p.Backends-1) && p.servers[backend].up(now)
}

// someUp: whether any server is up.
func (p *Pool) someUp(now int) bool {
	for backend := range p.Backends {
		if p.Up(backend, now) {
			return true
		}
	}
	return false
}
