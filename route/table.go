package route

import (
	"slices"

	"turnpike/api"
)

const mostConns = 1024

// Table knows which ids lead to which connections.
type Table struct {
	config Config
	serial int            // that of the next id
	ids    map[string]int // ids lead to connections
	conns  map[int]ends   // connections have ids, by which Remove finds them
}

// ends: the ids of a connection; they may be the same.
type ends struct{ first, own string }

// New: an empty table.
func New(c Config) (*Table, api.Errno) {
	if len(c.Secret) != secretSize {
		return nil, api.ErrKey
	}
	if !within(c.Worker, workerMost) {
		return nil, api.ErrNumber
	}
	if c.Most < 1 || c.Most > mostConns {
		return nil, api.ErrMost
	}
	c.Secret = slices.Clone(c.Secret)
	return &Table{config: c, ids: map[string]int{}, conns: map[int]ends{}}, api.OK
}

// Next: a new id.
func (t *Table) Next() []byte {
	id, _ := Make(t.config.Secret, t.config.Worker, t.serial) // New has refused what Make would; serial numbers do not run out
	t.serial++
	return id
}

// Add: two ids of a connection.
func (t *Table) Add(conn int, first, own []byte) api.Errno {
	if len(t.conns) >= t.config.Most {
		return api.ErrMost
	}
	if _, there := t.conns[conn]; there || t.leads(first) || t.leads(own) {
		return api.ErrTwice
	}
	t.conns[conn] = ends{first: string(first), own: string(own)}
	t.ids[string(first)] = conn
	t.ids[string(own)] = conn
	return api.OK
}

// Remove: a connection is no more.
func (t *Table) Remove(conn int) {
	has, there := t.conns[conn]
	if !there {
		return // else the empty id would be taken off, which may lead to another one
	}
	delete(t.ids, has.first)
	delete(t.ids, has.own)
	delete(t.conns, conn)
}

// leads: whether an id leads to a connection.
func (t *Table) leads(id []byte) bool {
	_, there := t.ids[string(id)]
	return there
}
