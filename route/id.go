package route

import "turnpike/api"

const (
	idSize     = 8
	serialBits = 56 // the worker stands above them
	workerMost = 1<<8 - 1
	serialMost = 1<<serialBits - 1
)

// Make: an id.
func Make(secret []byte, worker, serial int) ([]byte, api.Errno) {
	if len(secret) != secretSize {
		return nil, api.ErrKey
	}
	if !within(worker, workerMost) || !within(serial, serialMost) {
		return nil, api.ErrNumber
	}
	return laid(uint64(worker)<<serialBits^uint64(serial)^veil(secret), idSize), api.OK
}

// Read: what an id tells.
func Read(secret, id []byte) (worker, serial int, e api.Errno) {
	if len(secret) != secretSize {
		return 0, 0, api.ErrKey
	}
	if len(id) != idSize {
		return 0, 0, api.ErrCid
	}
	told := numberOf(id) ^ veil(secret)
	return int(told >> serialBits), int(told & serialMost), api.OK
}

// Reset: an id's reset token.
func Reset(secret, id []byte) ([]byte, api.Errno) {
	if len(secret) != secretSize {
		return nil, api.ErrKey
	}
	if len(id) > api.MaxCid {
		return nil, api.ErrCid
	}
	return digest([]byte("reset"), secret, id), api.OK
}

// veil: what lies over the ids of a secret, as one number; laying it on again takes it off.
func veil(secret []byte) uint64 {
	return numberOf(digest([]byte("cid"), secret)[:idSize])
}
